import PyProof.Rows.All
import Wide.All
import OpenK.AllK
import Wide.FinOn
import Lean
import PyProof.EqAt
import PyProof.EqKinds
import PyProof.TupleCall
import PyProof.ZipIter
import PyProof.Rows.ZipGen
import PyProof.DictCompW
import KE.KRevIter
import PyProof.StrCalls2
import PyProof.StrWalks
import PyProof.Rows.StrItems
import PyProof.StrLawsTight
import PyProof.Rows.SetFrom
import PyProof.CollectIter
import PyProof.FactsAll.set
import PyProof.StationsW
import PyProof.ExcClass3
import PyProof.RulesAs
import OpenK.KRaise
import PyProof.ExcBaseAll.ValueError
import OpenK.KOwn
import PyProof.NsDelKeeps
import PyProof.ExcArgsOwn
import PyProof.ExcAttrAll.ValueError
import PyProof.IsiBase
import KE.KIsAll
import PyProof.ExcNew
import PyProof.ExcFactsAll.ValueError
import PyProof.ListRange
import PyProof.ReprRoads
import PyProof.ReprLen
import PyProof.P3In
import PyProof.NeData
import PyProof.Rows.SortWalk
import PyProof.AutoRange
import PyProof.FactsAll.range_2
import PyProof.MeetsSeq
import PyProof.FactsAll.list_3
import PyProof.Rows.Range3
import PyProof.AttrMissHeap
import PyProof.FactsAll.enumerate_0
import PyProof.FactsAll.enumerate_1
import KE.KDictOf
import PyProof.DictRoadsH
import PyProof.MeetsDict
import PyProof.DictCalls
import PyProof.Rows.SortShell
import PyProof.StrBlockI
import PyProof.StrBlock2
import PyProof.DictTruth
import KE.KUnpack
import PySem.Challenge.RW_mirrorsums_k18_whole_sums_counted
set_option Elab.async false
set_option linter.all false
set_option maxRecDepth 100000
namespace L2
open PySem PySem.Spec PyProof.Rows
abbrev Key:=Sum Int Str
def keyIs:Key->Value->Bool
 | .inl k,v=>Value.isInt k v
 | .inr x,v=>Value.isStrOf x v
def keyH (w:World):Key->Int
 | .inl k=>hashInt k
 | .inr x=>hashStr w x
theorem keyIs_shape:∀{k:Key} {v:Value},keyIs k v=true->(∃i t,k=Sum.inl i/\v=Value.int i t)\/(∃x t,k=Sum.inr x/\v=Value.str x t)
 | .inl i,v,h=>by
  obtain ⟨t,e⟩:=Value.isInt_shape (k:=i) (v:=v) h
  exact .inl ⟨i,t,rfl,e⟩
 | .inr x,v,h=>by
  obtain ⟨t,e⟩:=Value.isStrOf_shape (x:=x) (v:=v) h
  exact .inr ⟨x,t,rfl,e⟩
theorem keyIs_int (i:Int) (t:Tok):keyIs (.inl i) (.int i t)=true:=by simp [keyIs,Value.isInt]
theorem keyIs_str (x:Str) (t:Tok):keyIs (.inr x) (.str x t)=true:=by simp [keyIs,Value.isStrOf]
theorem key_ll (a b:Int):decide ((Sum.inl a:Key)=Sum.inl b)=(a == b):=by
 by_cases e:a=b
 ·subst e;simp
 ·have h:¬(Sum.inl a:Key)=Sum.inl b:=fun q=>e (Sum.inl.inj q)
  rw [decide_eq_false h]
  exact (beq_eq_false_iff_ne.mpr e).symm
theorem key_rr (a b:Str):decide ((Sum.inr a:Key)=Sum.inr b)=decide (a=b):=by
 by_cases e:a=b
 ·subst e;simp
 ·have h:¬(Sum.inr a:Key)=Sum.inr b:=fun q=>e (Sum.inr.inj q)
  rw [decide_eq_false h,decide_eq_false e]
theorem key_lr (a:Int) (b:Str):decide ((Sum.inl a:Key)=Sum.inr b)=false:=decide_eq_false (fun q=>nomatch q)
theorem key_rl (a:Str) (b:Int):decide ((Sum.inr a:Key)=Sum.inl b)=false:=decide_eq_false (fun q=>nomatch q)
def mixKind (prog:Program) (w:World):PySem.KeyKind prog w Key where
 is:=keyIs
 hash:=keyH w
 inj:=fun v a b ha hb=>by
  rcases keyIs_shape ha with ⟨i,t,rfl,rfl⟩|⟨x,t,rfl,rfl⟩
  ·rcases keyIs_shape hb with ⟨j,u,rfl,e⟩|⟨y,u,rfl,e⟩
   ·injection e with e1 _;rw [e1]
   ·exact nomatch e
  ·rcases keyIs_shape hb with ⟨j,u,rfl,e⟩|⟨y,u,rfl,e⟩
   ·exact nomatch e
   ·injection e with e1 _;rw [e1]
 byValue:=fun k v h=>by
  rcases keyIs_shape h with ⟨i,t,rfl,rfl⟩|⟨x,t,rfl,rfl⟩<;>rfl
 pyHash:=fun hv h=>by
  rcases keyIs_shape hv with ⟨i,t,rfl,rfl⟩|⟨x,t,rfl,rfl⟩
  ·exact wpAny_pyHash_int h
  ·exact wpAny_pyHash_str h
 eqBool:=fun hu hv h=>by
  rcases keyIs_shape hu with ⟨i,t,rfl,rfl⟩|⟨x,t,rfl,rfl⟩
  ·rcases keyIs_shape hv with ⟨j,u,rfl,rfl⟩|⟨y,u,rfl,rfl⟩
   ·rw [key_ll] at h;exact wpAny_eqBool_int h
   ·rw [key_lr] at h;exact SeqAt.EqAt.int_str i t y u _ _ _ _ h
  ·rcases keyIs_shape hv with ⟨j,u,rfl,rfl⟩|⟨y,u,rfl,rfl⟩
   ·rw [key_rl] at h;exact SeqAt.EqAt.str_int x t j u _ _ _ _ h
   ·rw [key_rr] at h;exact wpAny_eqBool_str h
 «strs»:=fun k x t v h=>by
  rcases keyIs_shape h with ⟨i,u,rfl,e⟩|⟨y,u,rfl,e⟩
  ·exact nomatch e
  ·injection e with e1 _
   subst e1
   cases v<;>rfl
theorem mixKind_int (prog:Program) (w:World) (i:Int) (t:Tok):(mixKind prog w).is (.inl i) (.int i t)=true:=keyIs_int i t
theorem mixKind_str (prog:Program) (w:World) (x:Str) (t:Tok):(mixKind prog w).is (.inr x) (.str x t)=true:=keyIs_str x t
inductive V where
 | non|bl (b:Bool)|int (i:Int)|str (x:Str)|byt (b:Array UInt8)|flt (b:UInt64)|ref (a:Addr)|ty (n:String)
 deriving DecidableEq
def RelV:V->Value->Prop
 | .non,u=>u=Value.none
 | .bl b,u=>u=Value.bool b
 | .int i,u=>∃t,u=Value.int i t
 | .str x,u=>∃t,u=Value.str x t
 | .byt b,u=>∃t,u=Value.bytes b t
 | .flt b,u=>∃t,u=Value.float b t
 | .ref a,u=>u=Value.ref a
 | .ty n,u=>u=Value.type n
abbrev Vals:List V->List Value->Prop:=Paired RelV
theorem Vals.length {xs:List V} {us:List Value} (r:Vals xs us):xs.length=us.length:=Paired.length r
theorem Vals.get:∀{xs:List V} {us:List Value} {i:Nat} {x:V},Vals xs us->xs[i]? = some x->∃u,us[i]? = some u/\RelV x u
 | _,_,_,_,.nil,e=>by simp at e
 | _,_,0,_,.cons r _,e=>by simp at e;subst e;exact ⟨_,rfl,r⟩
 | _,_,i+1,x,.cons _ t,e=>by
  obtain ⟨u,h1,h2⟩:=Vals.get (i:=i) (x:=x) t (by simpa using e)
  exact ⟨u,by simpa using h1,h2⟩
theorem Vals.set {x:V} {u:Value} (r:RelV x u):∀{xs:List V} {us:List Value} (i:Nat),Vals xs us->Vals (xs.set i x) (us.set i u)
 | _,_,_,.nil=>.nil
 | _,_,0,.cons _ t=>.cons r t
 | _,_,i+1,.cons q t=>.cons q (Vals.set r i t)
theorem Vals.append:∀{xs ys:List V} {us ws:List Value},Vals xs us->Vals ys ws->Vals (xs++ys) (us++ws)
 | _,_,_,_,.nil,s=>s
 | _,_,_,_,.cons r t,s=>.cons r (Vals.append t s)
theorem Vals.take:∀{xs:List V} {us:List Value} (n:Nat),Vals xs us->Vals (xs.take n) (us.take n)
 | _,_,0,_=>.nil
 | _,_,_+1,.nil=>.nil
 | _,_,n+1,.cons r t=>.cons r (Vals.take n t)
theorem Vals.drop:∀{xs:List V} {us:List Value} (n:Nat),Vals xs us->Vals (xs.drop n) (us.drop n)
 | _,_,0,r=>r
 | _,_,_+1,.nil=>.nil
 | _,_,n+1,.cons _ t=>Vals.drop n t
def RelO:Option V->Option Value->Prop
 | some v,some u=>RelV v u
 | none,none=>True
 | _,_=>False
def KV {κ:Type}:List (κ × V)->List (κ × Value)->Prop:=Paired fun (p:κ × V) (q:κ × Value)=>p.1=q.1/\RelV p.2 q.2
def kV:Key->V
 | .inl i=>.int i
 | .inr x=>.str x
inductive HO where
 /-- a list -/
 | lst (xs:List V)
 /-- a tuple (never changes) -/
 | tup (xs:List V)
 /-- a dict whose keys are ints and texts;one whose keys are tuples of ints and texts (the empty one is both) -/
 | dK (kvs:List (Key × V))|dT (kvs:List (List Key × V))
 /-- a set of ints: its members,its size -/
 | set (S:Int->Bool) (n:Nat)
 /-- an instance of the class at C,its dict at dx,its attributes -/
 | ins (C dx:Addr) (fs:List (Str × V))
 /-- the dict of the instance at x -/
 | own (x:Addr)
 /-- the dict of an exception -/
 | xd (fs:List (Str × V))
 /-- a bound method,f of x -/
 | met (f x:Addr)
 /-- a range object lo,lo+1,.. below hi -/
 | rng (lo hi:Int)
 /-- a thing that is known to the object (the script;a dict while a loop walks it): read,never written while it is so -/
 | frz (o:Obj) (u:HO)
 /-- a code object's table -/
 | tbl (ps:Array Value)
 /-- any other thing,by what is true of its one object (a def of one's own: SetO a S n:=HO.ext fun h=>..) -/
 | ext (φ:Heap->Prop)
abbrev Hp:=Addr->Option HO
def upd (H:Hp) (a:Addr) (o:HO):Hp:=fun b=>if b=a then some o else H b
theorem upd_same {H:Hp} {a:Addr} {o:HO}:upd H a o a=some o:=by unfold upd;rw [if_pos rfl]
theorem upd_ne {H:Hp} {a b:Addr} {o:HO} (h:b≠a):upd H a o b=H b:=by unfold upd;rw [if_neg h]
theorem ne_of {H:Hp} {a b:Addr} {o u:HO} (h:H a=some o) (h':H b=some u) (d:o≠u):a≠b:=by
 intro e;subst e;rw [h] at h';exact d (Option.some.inj h')
theorem ne_of_none {H:Hp} {a b:Addr} {o:HO} (h:H a=some o) (h':H b=none):a≠b:=by
 intro e;subst e;rw [h] at h';cases h'
section
variable (P:Program) (w:World)
def ObjOk (H:Hp) (h:Heap) (a:Addr):HO->Prop
 | .lst xs=>xs.length<=sizeLine/\∃(its:List Value) (n:Nat),Vals xs its/\h.get? a=some { cls:=.type "list",data:=.seq its.toArray n }
 | .tup xs=>xs.length<=sizeLine/\∃its:List Value,Vals xs its/\IsTup h a its.toArray
 | .dK kvs=>kvs.length<=sizeLine/\(a == sysModules)=false/\∃vs,KV kvs vs/\h.DictOf (mixKind P w) a vs
 | .dT kvs=>kvs.length<=sizeLine/\(a == sysModules)=false/\∃xs:List (List Key × Addr × Value),
   Paired (fun (p:List Key × V) (q:List Key × Addr × Value)=>p.1=q.1/\H q.2.1=some (.tup (p.1.map kV))/\RelV p.2 q.2.2) kvs xs /\
   ∃o es ep,h.get? a=some o/\o.ExactDict/\o.data=.dict es ep/\es.toList=xs.map (entryOfKey (tupleKind (mixKind P w)))/\(xs.map (·.1)).Nodup
 | .set S n=>h.SetOf (intKind P w) a S n
 | .ins C dx fs=>H dx=some (.own a)/\fs.length<=1000/\dx≠a/\h.get? a=some (PySem.W.instObj C dx) /\
   ∃mA,h.Ns1 dx mA/\(∀f,RelO (fs.lookup f) (mA f))/\PySem.Within mA (fs.map (·.1))
 | .own _=>∃o,h.get? a=some o
 | .xd fs=>∃mA,h.Ns1 a mA/\∀f,RelO (fs.lookup f) (mA f)
 | .rng lo hi=>∃t u v,h.get? a=some { cls:=.type "range",data:=.fields #[.int lo t,.int hi u,.int 1 v] }
 | .frz o u=>h.get? a=some o/\ObjOk H h a u
 | .tbl ps=>h.get? a=some { cls:=.none,data:=.fields ps }
 | .met f x=>h.get? a=some (PySem.W.methodObj (.ref f) (.ref x))
 | .ext φ=>φ h/\(∃o,h.get? a=some o)/\∀h1 h2:Heap,φ h1->(∀o,h1.get? a=some o->h2.get? a=some o)->φ h2
def HOk (H:Hp) (h:Heap):Prop:=∀a o,H a=some o->ObjOk P w H h a o
end
section
variable {P:Program} {w:World} {H H':Hp} {h h':Heap} {a:Addr} {o:HO}
theorem ObjOk.lt (x:ObjOk P w H h a o):a<h.objs.size:=by
 cases o with
 | lst xs=>obtain ⟨_,_,_,_,e⟩:=x;exact Heap.lt_size e
 | tup xs=>obtain ⟨_,_,_,p⟩:=x;exact p.lt
 | dK kvs=>obtain ⟨_,_,_,_,o,_,_,e,_⟩:=x;exact Heap.lt_size e
 | dT kvs=>obtain ⟨_,_,_,_,o,_,_,e,_⟩:=x;exact Heap.lt_size e
 | set S n=>obtain ⟨o,_,_,_,e,_⟩:=x;exact Heap.lt_size e
 | ins C dx fs=>obtain ⟨_,_,_,e,_⟩:=x;exact Heap.lt_size e
 | own y=>obtain ⟨_,e⟩:=x;exact Heap.lt_size e
 | xd fs=>obtain ⟨_,⟨_,_,_,e,_⟩,_⟩:=x;exact Heap.lt_size e
 | rng lo hi=>obtain ⟨_,_,_,e⟩:=x;exact Heap.lt_size e
 | frz ob u=>obtain ⟨e,_⟩:=x;exact Heap.lt_size e
 | tbl ps=>exact Heap.lt_size (show h.get? a=some _ from x)
 | met f y=>exact Heap.lt_size (show h.get? a=some _ from x)
 | ext φ=>obtain ⟨_,⟨_,e⟩,_⟩:=x;exact Heap.lt_size e
theorem Paired.mapP {α β:Type} {F G:α->β->Prop}:∀{l₁:List α} {l₂:List β},Paired F l₁ l₂->(∀a b,F a b->G a b)->Paired G l₁ l₂
 | _,_,.nil,_=>.nil
 | _,_,.cons r t,f=>.cons (f _ _ r) (Paired.mapP t f)
theorem ObjOk.stay (x:ObjOk P w H h a o) (k:∀b u,(b=a\/H b=some (.own a))->h.get? b=some u->h'.get? b=some u)
  (ho:∀b,H b=some (.own a)->H' b=some (.own a)) (ht:∀b xs,H b=some (.tup xs)->H' b=some (.tup xs)):ObjOk P w H' h' a o:=by
 induction o with
 | lst xs=>obtain ⟨z,its,n,r,e⟩:=x;exact ⟨z,its,n,r,k _ _ (.inl rfl) e⟩
 | tup xs=>obtain ⟨z,its,r,ob,e,c⟩:=x;exact ⟨z,its,r,ob,k _ _ (.inl rfl) e,c⟩
 | dK kvs=>obtain ⟨z,y,vs,r,ob,es,ep,e,c⟩:=x;exact ⟨z,y,vs,r,ob,es,ep,k _ _ (.inl rfl) e,c⟩
 | dT kvs=>
  obtain ⟨z,y,xs,r,ob,es,ep,e,c⟩:=x
  exact ⟨z,y,xs,Paired.mapP r fun p q z=>⟨z.1,ht _ _ z.2.1,z.2.2⟩,ob,es,ep,k _ _ (.inl rfl) e,c⟩
 | set S n=>obtain ⟨ob,es,ep,t,e,c⟩:=x;exact ⟨ob,es,ep,t,k _ _ (.inl rfl) e,c⟩
 | ins C dx fs=>
  obtain ⟨d,z,ne,e,mA,⟨od,es,ep,e2,c⟩,r⟩:=x
  exact ⟨ho _ d,z,ne,k _ _ (.inl rfl) e,mA,⟨od,es,ep,k _ _ (.inr d) e2,c⟩,r⟩
 | own y=>obtain ⟨ob,e⟩:=x;exact ⟨ob,k _ _ (.inl rfl) e⟩
 | xd fs=>obtain ⟨mA,⟨od,es,ep,e,c⟩,r⟩:=x;exact ⟨mA,⟨od,es,ep,k _ _ (.inl rfl) e,c⟩,r⟩
 | rng lo hi=>obtain ⟨t,u,v,e⟩:=x;exact ⟨t,u,v,k _ _ (.inl rfl) e⟩
 | frz ob u ih=>obtain ⟨e,q⟩:=x;exact ⟨k _ _ (.inl rfl) e,ih q⟩
 | tbl ps=>
  have e:h.get? a=some { cls:=.none,data:=.fields ps }:=x
  show h'.get? a=some { cls:=.none,data:=.fields ps }
  exact k a _ (.inl rfl) e
 | met f y=>
  have e:h.get? a=some (PySem.W.methodObj (.ref f) (.ref y)):=x
  show h'.get? a=some (PySem.W.methodObj (.ref f) (.ref y))
  exact k a _ (.inl rfl) e
 | ext φ=>obtain ⟨p,⟨o,e⟩,st⟩:=x;exact ⟨st _ _ p fun o q=>k _ _ (.inl rfl) q,⟨o,k _ _ (.inl rfl) e⟩,st⟩
theorem HOk.lt (x:HOk P w H h) (e:H a=some o):a<h.objs.size:=(x a o e).lt
theorem HOk.fresh (x:HOk P w H h) (e:h.objs.size<=a):H a=none:=by
 cases q:H a with
 | none=>rfl
 | some u=>exact absurd (Nat.lt_of_lt_of_le (x.lt q) e) (Nat.lt_irrefl _)
theorem HOk.kept (x:HOk P w H h) (k:∀b u,h.get? b=some u->h'.get? b=some u):HOk P w H h':=fun a o e=>
 (x a o e).stay (fun b u _ q=>k b u q) (fun _ q=>q) fun _ _ q=>q
theorem HOk.laid (x:HOk P w H h) (k:∀b u,h.get? b=some u->h'.get? b=some u) (hp:h.objs.size<=a) (new:ObjOk P w (upd H a o) h' a o):HOk P w (upd H a o) h':=fun b u e=>by
 have hn:=x.fresh hp
 by_cases hb:b=a
 ·subst hb;rw [upd_same] at e;cases e;exact new
 ·rw [upd_ne hb] at e
  exact (x b u e).stay (fun c v _ q=>k c v q) (fun c q=>by rw [upd_ne (ne_of_none q hn)];exact q) fun c xs q=>by rw [upd_ne (ne_of_none q hn)];exact q
end
def Rd (H:Hp) (a:Addr) (u:HO):Prop:=H a=some u\/∃o,H a=some (.frz o u)
theorem Rd.ok {P:Program} {w:World} {H:Hp} {h:Heap} {a:Addr} {u:HO} (r:Rd H a u) (x:HOk P w H h):ObjOk P w H h a u:=by
 rcases r with r|⟨o,r⟩
 ·exact x a u r
 ·obtain ⟨_,q⟩:=x a _ r
  exact q
def Mut:Option HO->Prop
 | some (.lst _)=>True
 | some (.dK _)=>True
 | some (.dT _)=>True
 | some (.set _ _)=>True
 | some (.ins _ _ _)=>True
 | some (.ext _)=>True
 | _=>False
section
variable {P:Program} {w:World} {H:Hp} {h h':Heap} {x e:Addr} {o':HO}
theorem HOk.write (ok:HOk P w H h) (mu:Mut (H x)) (he:e=x\/H e=some (.own x)) (k:∀b u,b≠e->h.get? b=some u->h'.get? b=some u) (heo:∃u,h'.get? e=some u)
  (new:ObjOk P w (upd H x o') h' x o'):HOk P w (upd H x o') h':=fun b u q=>by
 have nown:∀c y,H c=some (.own y)->c≠x:=fun c y r z=>by subst z;rw [r] at mu;exact mu
 have ntup:∀c xs,H c=some (.tup xs)->c≠x:=fun c xs r z=>by subst z;rw [r] at mu;exact mu
 by_cases hb:b=x
 ·subst hb;rw [upd_same] at q;cases q;exact new
 ·rw [upd_ne hb] at q
  by_cases hbe:b=e
  ·have q':H b=some (.own x):=by
    rcases he with z|z
    ·exact absurd (hbe.trans z) hb
    ·rw [hbe];exact z
   rw [q] at q';cases q'
   obtain ⟨v,hv⟩:=heo
   exact ⟨v,by rw [hbe];exact hv⟩
  ·refine (ok b u q).stay (fun c v hc r=>k c v ?_ r) (fun c r=>by rw [upd_ne (nown c b r)];exact r) fun c xs r=>by rw [upd_ne (ntup c xs r)];exact r
   rcases hc with rfl|hc
   ·exact hbe
   ·rintro rfl
    rcases he with z|z
    ·exact nown c b hc z
    ·rw [hc] at z;cases z;exact hb rfl
end
structure Un (fs ex:List Addr) (H H':Hp) (h h':Heap):Prop where
 keep:∀b o,h.get? b=some o->H b=none->b ∉ fs->b ∉ ex->h'.get? b=some o
 slot:∀b o,h.get? b=some o->H b=none->b∈fs->b ∉ ex->∃sl,h'.get? b=some { o with slots:=sl }
 free:∀b o,h.get? b=some o->H b=none->b ∉ ex->H' b=none
 there:∀b o,h.get? b=some o->b ∉ ex->∃o',h'.get? b=some o'
 tups:∀b xs,H b=some (.tup xs)->H' b=some (.tup xs)
 frzs:∀b o u,H b=some (.frz o u)->H' b=some (.frz o u)
 tbls:∀b ps,H b=some (.tbl ps)->∃more,H' b=some (.tbl (ps++more))
section
variable {fs fs' ex ex':List Addr} {H H1 H2:Hp} {h h1 h2 h':Heap} {a x e:Addr} {o:HO}
theorem Un.any (u:Un fs ex H H1 h h1) {b:Addr} {ob:Obj} (q:h.get? b=some ob) (n:H b=none) (hx:b ∉ ex):∃sl,h1.get? b=some { ob with slots:=sl }:=by
 by_cases hb:b∈fs
 ·exact u.slot b ob q n hb hx
 ·exact ⟨ob.slots,u.keep b ob q n hb hx⟩
theorem Un.kept (k:∀b u,h.get? b=some u->h'.get? b=some u):Un fs ex H H h h':=
 ⟨fun b ob q _ _ _=>k b ob q,fun b ob q _ _ _=>⟨ob.slots,k b ob q⟩,fun _ _ _ n _=>n,fun b ob q _=>⟨ob,k b ob q⟩,fun _ _ q=>q,fun _ _ _ q=>q,fun _ ps q=>⟨#[],by rw [q];simp⟩⟩
theorem Un.refl:Un fs ex H H h h:=Un.kept fun _ _ q=>q
theorem Un.laid (k:∀b u,h.get? b=some u->h'.get? b=some u) (hp:h.objs.size<=a) (hn:H a=none):Un fs ex H (upd H a o) h h' where
 keep:=fun b u q _ _ _=>k b u q
 slot:=fun b u q _ _ _=>⟨u.slots,k b u q⟩
 free:=fun b u q n _=>by rw [upd_ne (Nat.ne_of_lt (Nat.lt_of_lt_of_le (Heap.lt_size q) hp))];exact n
 there:=fun b u q _=>⟨u,k b u q⟩
 tups:=fun b xs q=>by rw [upd_ne (ne_of_none q hn)];exact q
 frzs:=fun b u xs q=>by rw [upd_ne (ne_of_none q hn)];exact q
 tbls:=fun b ps q=>⟨#[],by rw [upd_ne (ne_of_none q hn),q];simp⟩
theorem Un.write (mu:Mut (H x)) (he:e=x\/H e=some (.own x)) (k:∀b u,b≠e->h.get? b=some u->h'.get? b=some u) (heo:∃u,h'.get? e=some u):Un fs ex H (upd H x o) h h':=by
 have hx:∀b,H b=none->b≠x:=fun b n z=>by subst z;rw [n] at mu;exact mu
 have hb:∀b,H b=none->b≠e:=fun b n z=>by
  subst z
  rcases he with r|r
  ·exact hx b n r
  ·rw [n] at r;cases r
 have hm:∀b u,H b=some u->¬Mut (some u)->b≠x:=fun b u q nm z=>by subst z;rw [q] at mu;exact nm mu
 refine ⟨fun b u q n _ _=>k b u (hb b n) q,fun b u q n _ _=>⟨u.slots,k b u (hb b n) q⟩,fun b u q n _=>by rw [upd_ne (hx b n)];exact n,fun b u q _=>?_,
  fun b xs q=>by rw [upd_ne (hm b _ q fun z=>z)];exact q,fun b u xs q=>by rw [upd_ne (hm b _ q fun z=>z)];exact q,fun b ps q=>⟨#[],by rw [upd_ne (hm b _ q fun z=>z),q];simp⟩⟩
 by_cases hbe:b=e
 ·subst hbe;exact heo
 ·exact ⟨u,k b u hbe q⟩
end
def trk (h:Heap) (H:Hp):List Addr:=(List.range h.objs.size).filter fun a=>(H a).isSome
def hidT (h:Heap) (H:Hp):Heap:=PySem.W.hideAll h (trk h H)
theorem hidT_size (h:Heap) (H:Hp):(hidT h H).objs.size=h.objs.size:=PySem.W.hideAll_size _ _
theorem hidT_get {h:Heap} {H:Hp} {b:Addr} {o:Obj} (e:h.get? b=some o) (n:H b=none):(hidT h H).get? b=some o:=
 PySem.W.hideAll_get _ e fun hm=>by
  have q:(H b).isSome=true:=(List.mem_filter.mp hm).2
  rw [n] at q;simp at q
theorem of_hidT {h:Heap} {H:Hp} {b:Addr} {o:Obj} (e:(hidT h H).get? b=some o):h.get? b=some o/\H b=none:=by
 have e':h.get? b=some o:=PySem.W.of_hideAll (trk h H) e
 refine ⟨e',?_⟩
 cases q:H b with
 | none=>rfl
 | some x=>
  have hm:b∈trk h H:=List.mem_filter.mpr ⟨List.mem_range.mpr (Heap.lt_size e'),by simp [q]⟩
  have z:(hidT h H).get? b=none:=PySem.W.hideAll_none (trk h H) hm
  rw [z] at e;cases e
def allNews (g h:Heap) (L:Addr):List (Addr × Obj):=(List.range h.objs.size).filterMap fun a=>if a=L\/(g.get? a).isSome=true then none else (h.get? a).map fun o=>(a,o)
def rest (g h:Heap) (L d:Addr):List (Addr × Obj):=(allNews g h L).filter fun p=>decide (p.1≠d)
structure Mod (K:PySem.W.Frag) (mg:Str->Option Value) (base:Heap):Prop where
 kin:K.In base
 glob:base.Ns mainGlobals mg
 blt:∃mb,base.Ns builtinsNs mb/\∀x:Str,x≠"__name__"->mb x=bootBuiltins x
 nolimit:base.NoLimit
structure Cx where
 prog:Program
 w:World
 K:PySem.W.Frag
 mg:Str->Option Value
 base:Heap
 A:Around
 N:List Str
 s₀:Shared
 H₀:Hp
 env:Env
 outer:List Env
 stack:List Env
 ex:List Addr
 fn:Str->Bool
 calm:Bool
 pn:List (Addr × Obj)
 xe:Value->Shared->Prop
def frs (l:List Env):List Addr:=l.filterMap (·.frame)
abbrev Cx.fs (X:Cx):List Addr:=frs X.outer
def Vis (sc:Scope) (x:Str):Prop:=sc.names.lookup x=some .local\/sc.names.lookup x=some .cell\/sc.names.lookup x=some .free
def Loc (sc:Scope) (x:Str):Prop:=sc.names.lookup x=some .local\/sc.names.lookup x=some .cell
def Look (env:Env) (h:Heap) (m:Str->Option Value) (x:Str) (u:Value):Prop:=
 (env.kindOf x=some .local/\m x=some u)\/((env.kindOf x=some .cell\/env.kindOf x=some .free)/\∃c,env.cells.lookup x=some c/\h.IsCell c (some u))
structure Cx.Ok (X:Cx):Prop where
 mod:Mod X.K X.mg X.base
 kind:X.env.scope.kind=.function
 glob:X.env.globals=mainGlobals
 blt:X.env.builtins=builtinsNs
 above:X.s₀.heap.objs.size<=X.env.locals
 inj:∀x y c,X.env.cells.lookup x=some c->X.env.cells.lookup y=some c->x=y
 has:∀x,(X.env.kindOf x=some .cell\/X.env.kindOf x=some .free)->∃c,X.env.cells.lookup x=some c
 cab:∀x c,X.fn x=true->X.env.cells.lookup x=some c->X.s₀.heap.objs.size<=c
 hd:X.calm=true->X.A.handled=none
 frames:X.A.frames=some X.stack
 stk:X.stack=X.outer\/(X.stack=X.env::X.outer/\X.env.frame=some X.env.locals)
 exf:∀b∈X.ex,b≠X.env.locals/\∀x c,X.env.cells.lookup x=some c->c≠b
 bs:∀b o,X.base.get? b=some o->X.s₀.heap.get? b=some o/\X.H₀ b=none
 bsz:X.base.objs.size<=X.s₀.heap.objs.size
 noex:∀b o,X.base.get? b=some o->b ∉ X.ex
 exfs:∀b∈X.ex,b ∉ X.fs
 funs:X.s₀.heap.FunFrames X.base X.outer
 frf:∀b∈X.fs,X.H₀ b=none
structure Inv (X:Cx) (pins:List (Addr × Obj)) (σ:List (Option V)) (H:Hp) (s:Shared):Prop where
 ok:X.Ok
 os:s.os=X.s₀.os
 bare:AllBare s.gens
 base:Un X.fs X.ex X.H₀ H X.s₀.heap s.heap
 loc:∃m,s.heap.Ns X.env.locals m/\∀(i:Nat) (x:Str) (v:V),X.N[i]? = some x->σ[i]? = some (some v)->Vis X.env.scope x->∃u,RelV v u/\Look X.env s.heap m x u
 cell:∀x c,X.env.cells.lookup x=some c->∃v,s.heap.IsCell c v
 free:H X.env.locals=none
 freeC:∀x c,X.env.cells.lookup x=some c->H c=none
 pin:∀p∈X.pn++pins,s.heap.get? p.1=some p.2/\H p.1=none/\p.1≠X.env.locals/\p.1 ∉ X.fs/\∀v,p.2.data≠.cell v
 hok:HOk X.prog X.w H s.heap
 len:σ.length=X.N.length
section
variable {X:Cx} {pins:List (Addr × Obj)} {σ:List (Option V)} {H H':Hp} {s:Shared} {h':Heap}
theorem Cx.Ok.nofr (ok:X.Ok) {b:Addr} {o:Obj} (e:X.base.get? b=some o):b ∉ X.fs:=fun hb=>by
 have:=(ok.funs.mem hb).1
 rw [e] at this;cases this
theorem Inv.bs (I:Inv X pins σ H s):∀b o,X.base.get? b=some o->s.heap.get? b=some o/\H b=none:=fun b o e=>
 ⟨I.base.keep b o (I.ok.bs b o e).1 (I.ok.bs b o e).2 (I.ok.nofr e) (I.ok.noex b o e),I.base.free b o (I.ok.bs b o e).1 (I.ok.bs b o e).2 (I.ok.noex b o e)⟩
theorem Inv.bk (I:Inv X pins σ H s):∀b o,X.base.get? b=some o->s.heap.get? b=some o:=fun b o e=>(I.bs b o e).1
theorem Inv.mod (I:Inv X pins σ H s):Mod X.K X.mg X.base:=I.ok.mod
theorem Inv.kIn (I:Inv X pins σ H s):X.K.In s.heap:=I.ok.mod.kin.keeps I.bk
theorem Inv.lt (I:Inv X pins σ H s):X.env.locals<s.heap.objs.size:=let ⟨_,hn,_⟩:=I.loc;hn.lt
theorem Inv.sz (I:Inv X pins σ H s):X.s₀.heap.objs.size<=s.heap.objs.size:=Nat.le_trans I.ok.above (Nat.le_of_lt I.lt)
theorem Inv.nofs (I:Inv X pins σ H s) {a:Addr} (h:s.heap.objs.size<=a):a ∉ X.fs:=fun hb=>by
 obtain ⟨_,o,ho,_⟩:=I.ok.funs.mem hb
 exact absurd (Nat.lt_of_lt_of_le (Heap.lt_size ho) (Nat.le_trans I.sz h)) (Nat.lt_irrefl _)
theorem Inv.cne (I:Inv X pins σ H s):∀x c,X.env.cells.lookup x=some c->c≠X.env.locals:=fun x c e z=>by
 obtain ⟨v,o,ho,hd⟩:=I.cell x c e
 obtain ⟨m,⟨o',es,ep,ho',hd',_⟩,_⟩:=I.loc
 rw [z,ho'] at ho;cases ho;rw [hd'] at hd;cases hd
theorem Inv.funs (I:Inv X pins σ H s):s.heap.FunFrames X.base X.outer:=by
 have all:∀(l:List Env),(∀b∈frs l,b∈X.fs)->X.s₀.heap.FunFrames X.base l->s.heap.FunFrames X.base l:=by
  intro l
  induction l with
  | nil=>intro _ _;trivial
  | cons env r ih=>
   intro hs hl
   obtain ⟨hk,⟨L,o,hf,hn,ho,hd⟩,hr⟩:=hl
   have hL:L∈X.fs:=hs L (by unfold frs;rw [List.filterMap_cons,hf];exact List.mem_cons_self)
   obtain ⟨sl,e⟩:=I.base.slot L o ho (I.ok.frf L hL) hL fun z=>I.ok.exfs L z hL
   exact ⟨hk,⟨L,_,hf,hn,e,hd⟩,ih (fun b hb=>hs b (by unfold frs;rw [List.filterMap_cons,hf];exact List.mem_cons_of_mem _ hb)) hr⟩
 exact all X.outer (fun _ hb=>hb) I.ok.funs
theorem Inv.stack (I:Inv X pins σ H s):s.heap.FunFrames X.base X.stack:=by
 rcases I.ok.stk with e|⟨e,hf⟩
 ·rw [e];exact I.funs
 ·rw [e]
  obtain ⟨m,hn,_⟩:=I.loc
  refine .cons (by rw [I.ok.kind];decide) hf hn ?_ I.funs
  exact Heap.get?_none_of_le (Nat.le_trans I.ok.bsz I.ok.above)
theorem Inv.stkSub (I:Inv X pins σ H s):∀b∈frs X.stack,b∈X.env.locals::X.fs:=fun b hb=>by
 rcases I.ok.stk with e|⟨e,hf⟩
 ·rw [e] at hb;exact List.mem_cons_of_mem _ hb
 ·rw [e] at hb
  unfold frs at hb
  rw [List.filterMap_cons,hf] at hb
  exact hb
theorem Inv.stkFree (I:Inv X pins σ H s):∀b∈frs X.stack,H b=none:=fun b hb=>by
 rcases List.mem_cons.mp (I.stkSub b hb) with e|hb
 ·rw [e];exact I.free
 ·obtain ⟨_,o,ho,_⟩:=I.ok.funs.mem hb
  exact I.base.free b o ho (I.ok.frf b hb) fun z=>I.ok.exfs b z hb
theorem Inv.step {g':Array GenState} {t':Nat} {d':Drawn} {ch:List Addr} (I:Inv X pins σ H s)
  (hch:∀b∈ch,(b∈X.ex\/X.s₀.heap.objs.size<=b)/\b≠X.env.locals/\(∀x c,X.env.cells.lookup x=some c->c≠b)/\∀p∈X.pn++pins,p.1≠b)
  (keep:∀b o,b≠X.env.locals->b ∉ X.fs->b ∉ ch->s.heap.get? b=some o->H b=none->h'.get? b=some o)
  (slot:∀b o,b≠X.env.locals->b∈X.fs->b ∉ ch->s.heap.get? b=some o->H b=none->∃sl,h'.get? b=some { o with slots:=sl }) (free:∀b o,b ∉ ch->s.heap.get? b=some o->H b=none->H' b=none)
  (there:∀b o,b ∉ ch->s.heap.get? b=some o->∃o',h'.get? b=some o')
  (tups:∀b xs,H b=some (.tup xs)->H' b=some (.tup xs)) (frzs:∀b o u,H b=some (.frz o u)->H' b=some (.frz o u)) (tbls:∀b ps,H b=some (.tbl ps)->∃more,H' b=some (.tbl (ps++more)))
  (ns:∀m,s.heap.Ns X.env.locals m->h'.Ns X.env.locals m) (hok:HOk X.prog X.w H' h') (hg:AllBare g') :
  Inv X pins σ H' { s with heap:=h',gens:=g',drawn:=d',toks:=t' }:=by
 have neL:∀b o,X.s₀.heap.get? b=some o->b≠X.env.locals:=fun b o e=>Nat.ne_of_lt (Nat.lt_of_lt_of_le (Heap.lt_size e) I.ok.above)
 have neC:∀b o,X.s₀.heap.get? b=some o->b ∉ X.ex->b ∉ ch:=fun b o e hx hb=>by
  rcases (hch b hb).1 with z|z
  ·exact hx z
  ·exact absurd (Nat.lt_of_lt_of_le (Heap.lt_size e) z) (Nat.lt_irrefl _)
 have cellK:∀x c,X.env.cells.lookup x=some c->∀v,s.heap.IsCell c v->h'.IsCell c v:=fun x c e v ⟨o,ho,hd⟩=>by
  have nch:c ∉ ch:=fun z=>(hch c z).2.2.1 x c e rfl
  by_cases hc:c∈X.fs
  ·obtain ⟨sl,q⟩:=slot c o (I.cne x c e) hc nch ho (I.freeC x c e)
   exact ⟨_,q,hd⟩
  ·exact ⟨o,keep c o (I.cne x c e) hc nch ho (I.freeC x c e),hd⟩
 refine ⟨I.ok,I.os,hg,⟨fun b o e n hb hx=>?_,fun b o e n hb hx=>?_,fun b o e n hx=>?_,fun b o e hx=>?_,fun b xs e=>tups b xs (I.base.tups b xs e),fun b o xs e=>frzs b o xs (I.base.frzs b o xs e),fun b ps e=>?_⟩,?_,fun x c e=>?_,?_,fun x c e=>?_,fun p hp=>?_,hok,I.len⟩
 ·exact keep b o (neL b o e) hb (neC b o e hx) (I.base.keep b o e n hb hx) (I.base.free b o e n hx)
 ·obtain ⟨sl,e1⟩:=I.base.slot b o e n hb hx
  obtain ⟨sl',e2⟩:=slot b _ (neL b o e) hb (neC b o e hx) e1 (I.base.free b o e n hx)
  exact ⟨sl',e2⟩
 ·obtain ⟨o',e1⟩:=I.base.there b o e hx
  exact free b o' (neC b o e hx) e1 (I.base.free b o e n hx)
 ·obtain ⟨o',e1⟩:=I.base.there b o e hx
  exact there b o' (neC b o e hx) e1
 ·obtain ⟨m1,e1⟩:=I.base.tbls b ps e
  obtain ⟨m2,e2⟩:=tbls b _ e1
  exact ⟨m1++m2,by rw [e2,Array.append_assoc]⟩
 ·obtain ⟨m,hn,hl⟩:=I.loc
  refine ⟨m,ns m hn,fun i x v e1 e2 e3=>?_⟩
  obtain ⟨u,r,l⟩:=hl i x v e1 e2 e3
  refine ⟨u,r,?_⟩
  rcases l with l|⟨k,c,e,z⟩
  ·exact .inl l
  ·exact .inr ⟨k,c,e,cellK x c e _ z⟩
 ·obtain ⟨v,z⟩:=I.cell x c e
  exact ⟨v,cellK x c e v z⟩
 ·obtain ⟨m,⟨o,_,_,ho,_⟩,_⟩:=I.loc
  exact free _ o (fun z=>(hch _ z).2.1 rfl) ho I.free
 ·obtain ⟨v,o,ho,hd⟩:=I.cell x c e
  exact free c o (fun z=>(hch c z).2.2.1 x c e rfl) ho (I.freeC x c e)
 ·obtain ⟨e,n,ne,nf,d⟩:=I.pin p hp
  have nch:p.1 ∉ ch:=fun z=>(hch p.1 z).2.2.2 p hp rfl
  exact ⟨keep p.1 p.2 ne nf nch e n,free p.1 p.2 nch e n,ne,nf,d⟩
theorem Inv.un {t':Nat} (I:Inv X pins σ H s) (u:Un X.fs [] H H' s.heap h') (hok:HOk X.prog X.w H' h'):Inv X pins σ H' { s with heap:=h',toks:=t' }:=by
 obtain ⟨m,⟨o,es,ep,ho,r⟩,_⟩:=id I.loc
 obtain ⟨sl,hL⟩:=u.any ho I.free (by simp)
 exact I.step (g':=s.gens) (d':=s.drawn) (ch:=[]) (fun _ z=>nomatch z) (fun b o _ hb _ e n=>u.keep b o e n hb (by simp)) (fun b o _ hb _ e n=>u.slot b o e n hb (by simp)) (fun b o _ e n=>u.free b o e n (by simp)) (fun b o _ e=>u.there b o e (by simp)) u.tups u.frzs u.tbls (fun m' hm=>by
  obtain ⟨o',es',ep',ho',r'⟩:=hm
  rw [ho] at ho';cases ho'
  exact ⟨_,es',ep',hL,r'⟩) hok I.bare
theorem Inv.call {g':Array GenState} {t':Nat} {d':Drawn} {ch:List Addr} (I:Inv X pins σ H s) (u:Un (frs X.stack) ch H H' s.heap h') (hok:HOk X.prog X.w H' h') (hg:AllBare g')
  (hch:∀b∈ch,(b∈X.ex\/X.s₀.heap.objs.size<=b)/\b≠X.env.locals/\(∀x c,X.env.cells.lookup x=some c->c≠b)/\∀p∈X.pn++pins,p.1≠b) :
  Inv X pins σ H' { s with heap:=h',gens:=g',drawn:=d',toks:=t' }:=by
 obtain ⟨m,⟨o,es,ep,ho,r⟩,_⟩:=id I.loc
 obtain ⟨sl,hL⟩:=u.any ho I.free fun z=>(hch _ z).2.1 rfl
 exact I.step (ch:=ch) hch (fun b o hL hb hc e n=>u.keep b o e n (fun z=>(List.mem_cons.mp (I.stkSub b z)).elim hL hb) hc) (fun b o _ _ hc e n=>u.any e n hc) (fun b o hc e n=>u.free b o e n hc) (fun b o hc e=>u.there b o e hc) u.tups u.frzs u.tbls (fun m' hm=>by
  obtain ⟨o',es',ep',ho',r'⟩:=hm
  rw [ho] at ho';cases ho'
  exact ⟨_,es',ep',hL,r'⟩) hok hg
theorem Inv.turned {t':Nat} {it:Addr} (I:Inv X pins σ H s) (k:∀b o,b≠it->s.heap.get? b=some o->h'.get? b=some o) (hn:H it=none) (hL:it≠X.env.locals)
  (h1:it∈X.ex\/X.s₀.heap.objs.size<=it) (h2:∀x c,X.env.cells.lookup x=some c->c≠it) (h3:∀p∈X.pn++pins,p.1≠it):Inv X pins σ H { s with heap:=h',toks:=t' }:=by
 have nit:∀b u,H b=some u->b≠it:=fun b u e z=>by rw [z,hn] at e;cases e
 refine I.step (g':=s.gens) (d':=s.drawn) (ch:=[it]) (fun b hb=>?_) (fun b o _ _ hc e _=>k b o (fun z=>hc (by simp [z])) e) (fun b o _ _ hc e _=>⟨o.slots,k b o (fun z=>hc (by simp [z])) e⟩) (fun _ _ _ _ n=>n)
  (fun b o hc e=>⟨o,k b o (fun z=>hc (by simp [z])) e⟩) (fun _ _ e=>e) (fun _ _ _ e=>e) (fun b ps e=>⟨#[],by rw [e];simp⟩) (fun m hm=>?_) (fun b u e=>?_) I.bare
 ·have e:b=it:=by simpa using hb
  subst e
  exact ⟨h1,hL,h2,h3⟩
 ·obtain ⟨o,es,ep,ho,r⟩:=hm
  exact ⟨o,es,ep,k _ o (Ne.symm hL) ho,r⟩
 ·refine (I.hok b u e).stay (fun c v hc q=>k c v ?_ q) (fun _ q=>q) fun _ _ q=>q
  rcases hc with z|z
  ·rw [z];exact nit b u e
  ·exact nit c _ z
theorem Inv.tok (I:Inv X pins σ H s) (t:Nat):Inv X pins σ H { s with toks:=t }:=I.un (h':=s.heap) (t':=t) Un.refl I.hok
theorem Inv.kept {t':Nat} (I:Inv X pins σ H s) (k:∀b u,s.heap.get? b=some u->h'.get? b=some u):Inv X pins σ H { s with heap:=h',toks:=t' }:=I.un (Un.kept k) (I.hok.kept k)
theorem Inv.laid {a:Addr} {o:HO} {t':Nat} (I:Inv X pins σ H s) (k:∀b u,s.heap.get? b=some u->h'.get? b=some u) (hp:s.heap.objs.size<=a) (new:ObjOk X.prog X.w (upd H a o) h' a o) :
  Inv X pins σ (upd H a o) { s with heap:=h',toks:=t' }:=I.un (Un.laid k hp (I.hok.fresh hp)) (I.hok.laid k hp new)
theorem Inv.write {x e:Addr} {o:HO} {t':Nat} (I:Inv X pins σ H s) (mu:Mut (H x)) (he:e=x\/H e=some (.own x)) (k:∀b u,b≠e->s.heap.get? b=some u->h'.get? b=some u) (heo:∃u,h'.get? e=some u)
  (new:ObjOk X.prog X.w (upd H x o) h' x o):Inv X pins σ (upd H x o) { s with heap:=h',toks:=t' }:=I.un (Un.write mu he k heo) (I.hok.write mu he k heo new)
theorem Inv.pins_of {pins':List (Addr × Obj)} (I:Inv X pins σ H s) (h:∀p∈pins',s.heap.get? p.1=some p.2/\H p.1=none/\p.1≠X.env.locals/\p.1 ∉ X.fs/\∀v,p.2.data≠.cell v):Inv X pins' σ H s:=
 ⟨I.ok,I.os,I.bare,I.base,I.loc,I.cell,I.free,I.freeC,fun p hp=>(List.mem_append.mp hp).elim (fun z=>I.pin p (List.mem_append_left _ z)) (h p),I.hok,I.len⟩
theorem nodup_ix {N:List Str} (hN:N.Nodup) {i j:Nat} {x:Str} (a:N[i]? = some x) (b:N[j]? = some x):i=j:=by
 obtain ⟨h1,e1⟩:=List.getElem?_eq_some_iff.mp a
 obtain ⟨h2,e2⟩:=List.getElem?_eq_some_iff.mp b
 exact (List.getElem_inj hN).mp (e1.trans e2.symm)
theorem store_ok2 {M:Model} {A:Around} {E:Value->Shared->Prop} {i:Nat} {x:Str} {v:V} {u:Value} {Q:Unit->Shared->Prop} (I:Inv X pins σ H s) (hN:X.N.Nodup) (hi:X.N[i]? = some x) (hx:Loc X.env.scope x) (r:RelV v u)
  (h:∀s',Inv X pins (σ.set i (some v)) H s'->(∃a,Heap.SameBut a s.heap s'.heap/\(a=X.env.locals\/X.env.cells.lookup x=some a))->Q () s') (hf:X.fn x=true\/X.env.scope.names.lookup x=some .local:=by first|exact .inl rfl|exact .inr rfl|assumption):wpAny M A (storeName X.env x u) Q E s:=by
 obtain ⟨m,hn,hl⟩:=id I.loc
 have hcls:(X.env.scope.kind == .class || (X.env.scope.kind == .module && X.env.locals != X.env.globals))=false:=by rw [I.ok.kind];rfl
 have hiσ:i<σ.length:=by rw [I.len];exact (List.getElem?_eq_some_iff.mp hi).1
 have cne:=I.cne
 have tracked:∀{a:Addr} {h':Heap},(∃o,s.heap.get? a=some o/\H a=none)->Heap.SameBut a s.heap h'->HOk X.prog X.w H h':=fun {a h'} ha hs b ob e=>by
  obtain ⟨_,_,hfree⟩:=ha
  refine (I.hok b ob e).stay (fun c w' hc q=>(hs.2 c ?_).trans q) (fun _ q=>q) fun _ _ q=>q
  rintro rfl
  rcases hc with rfl|hc
  ·rw [hfree] at e;cases e
  ·rw [hfree] at hc;cases hc
 rcases hx with hk|hk
 ·refine wpAny_storeName_local hk hn (fun h' hn' hs=>?_) hcls
  obtain ⟨oL,_,_,hoL,_⟩:=id hn
  refine h _ ⟨I.ok,I.os,I.bare,⟨fun b o e n hb hx=>?_,fun b o e n hb hx=>?_,I.base.free,fun b o e hx=>?_,I.base.tups,I.base.frzs,I.base.tbls⟩,⟨_,hn',fun j y v' e1 e2 e3=>?_⟩,fun y c e=>?_,I.free,I.freeC,fun p hp=>?_,tracked ⟨oL,hoL,I.free⟩ hs,by simpa using I.len⟩ ⟨_,hs,.inl rfl⟩
  ·exact (hs.2 b (Nat.ne_of_lt (Nat.lt_of_lt_of_le (Heap.lt_size e) I.ok.above))).trans (I.base.keep b o e n hb hx)
  ·obtain ⟨sl,e1⟩:=I.base.slot b o e n hb hx
   exact ⟨sl,(hs.2 b (Nat.ne_of_lt (Nat.lt_of_lt_of_le (Heap.lt_size e) I.ok.above))).trans e1⟩
  ·obtain ⟨o',e1⟩:=I.base.there b o e hx
   exact ⟨o',(hs.2 b (Nat.ne_of_lt (Nat.lt_of_lt_of_le (Heap.lt_size e) I.ok.above))).trans e1⟩
  ·by_cases hj:j=i
   ·subst hj
    rw [hi] at e1;cases e1
    rw [List.getElem?_set_self hiσ] at e2
    cases e2
    exact ⟨u,r,.inl ⟨hk,by simp⟩⟩
   ·rw [List.getElem?_set_ne (Ne.symm hj)] at e2
    obtain ⟨u',r',q⟩:=hl j y v' e1 e2 e3
    refine ⟨u',r',?_⟩
    rcases q with ⟨k,e⟩|⟨k,c,e,z⟩
    ·refine .inl ⟨k,?_⟩
     have:y≠x:=fun e=>hj (nodup_ix hN e1 (e▸hi))
     simp [this,e]
    ·exact .inr ⟨k,c,e,z.sameBut hs (cne y c e)⟩
  ·obtain ⟨w',z⟩:=I.cell y c e
   exact ⟨w',z.sameBut hs (cne y c e)⟩
  ·obtain ⟨e,n,ne,nf,d⟩:=I.pin p hp
   exact ⟨(hs.2 p.1 ne).trans e,n,ne,nf,d⟩
 ·have hfn:X.fn x=true:=by
   rcases hf with z|z
   ·exact z
   ·rw [z] at hk;cases hk
  obtain ⟨c,hc⟩:=I.ok.has x (.inl hk)
  obtain ⟨w',z⟩:=I.cell x c hc
  refine wpAny_storeName_cell I.ok.kind hk hc z (fun h' hc' hs=>?_)
  obtain ⟨oc,hoc,hocd⟩:=id z
  refine h { s with heap:=h' } ⟨I.ok,I.os,I.bare,⟨fun b o e n hb hx=>?_,fun b o e n hb hx=>?_,I.base.free,fun b o e hx=>?_,I.base.tups,I.base.frzs,I.base.tbls⟩,⟨m,hn.sameBut hs (Ne.symm (cne x c hc)),fun j y v' e1 e2 e3=>?_⟩,fun y c' e=>?_,I.free,I.freeC,fun p hp=>?_,tracked ⟨oc,hoc,I.freeC x c hc⟩ hs,by simpa using I.len⟩ ⟨c,hs,.inr hc⟩
  ·exact (hs.2 b (Nat.ne_of_lt (Nat.lt_of_lt_of_le (Heap.lt_size e) (I.ok.cab x c hfn hc)))).trans (I.base.keep b o e n hb hx)
  ·obtain ⟨sl,e1⟩:=I.base.slot b o e n hb hx
   exact ⟨sl,(hs.2 b (Nat.ne_of_lt (Nat.lt_of_lt_of_le (Heap.lt_size e) (I.ok.cab x c hfn hc)))).trans e1⟩
  ·obtain ⟨o',e1⟩:=I.base.there b o e hx
   exact ⟨o',(hs.2 b (Nat.ne_of_lt (Nat.lt_of_lt_of_le (Heap.lt_size e) (I.ok.cab x c hfn hc)))).trans e1⟩
  ·by_cases hj:j=i
   ·subst hj
    rw [hi] at e1;cases e1
    rw [List.getElem?_set_self hiσ] at e2
    cases e2
    exact ⟨u,r,.inr ⟨.inl hk,c,hc,hc'⟩⟩
   ·rw [List.getElem?_set_ne (Ne.symm hj)] at e2
    obtain ⟨u',r',q⟩:=hl j y v' e1 e2 e3
    refine ⟨u',r',?_⟩
    rcases q with q|⟨k,c',e,z'⟩
    ·exact .inl q
    ·refine .inr ⟨k,c',e,z'.sameBut hs ?_⟩
     rintro rfl
     exact hj (nodup_ix hN e1 (I.ok.inj _ _ _ e hc▸hi))
  ·by_cases hcc:c'=c
   ·subst hcc;exact ⟨_,hc'⟩
   ·obtain ⟨w2,z2⟩:=I.cell y c' e
    exact ⟨w2,z2.sameBut hs hcc⟩
  ·obtain ⟨e,n,ne,nf,d⟩:=I.pin p hp
   refine ⟨(hs.2 p.1 ?_).trans e,n,ne,nf,d⟩
   intro q
   rw [q,hoc] at e
   have q':oc=p.2:=Option.some.inj e
   exact d w' (by rw [<-q'];exact hocd)
theorem store_ok {M:Model} {A:Around} {E:Value->Shared->Prop} {i:Nat} {x:Str} {v:V} {u:Value} {Q:Unit->Shared->Prop} (I:Inv X pins σ H s) (hN:X.N.Nodup) (hi:X.N[i]? = some x) (hx:Loc X.env.scope x) (r:RelV v u)
  (h:∀s',Inv X pins (σ.set i (some v)) H s'->Q () s') (hf:X.fn x=true\/X.env.scope.names.lookup x=some .local:=by first|exact .inl rfl|exact .inr rfl|assumption):wpAny M A (storeName X.env x u) Q E s:=
 store_ok2 I hN hi hx r (fun s' I' _=>h s' I') hf
theorem Inv.call' {s':Shared} {ch:List Addr} (I:Inv X pins σ H s) (ho:s'.os=s.os) (u:Un (frs X.stack) ch H H' s.heap s'.heap) (hok:HOk X.prog X.w H' s'.heap) (hg:AllBare s'.gens)
  (hch:∀b∈ch,(b∈X.ex\/X.s₀.heap.objs.size<=b)/\b≠X.env.locals/\(∀x c,X.env.cells.lookup x=some c->c≠b)/\∀p∈X.pn++pins,p.1≠b):Inv X pins σ H' s':=by
 obtain ⟨h',g',d',t',o'⟩:=s'
 have e:o'=s.os:=ho
 subst e
 exact I.call (g':=g') (t':=t') (d':=d') u hok hg hch
end
abbrev XK:=Value->Option Addr->Hp->Prop
abbrev St:=List (Option V)
abbrev VK:=V->Hp->Prop
abbrev TE:=St->Hp->VK->Prop
abbrev TT:=St->Hp->(Bool->Hp->Prop)->Prop
abbrev TA:=St->Hp->(List V->Hp->Prop)->Prop
structure Ends where
 nx:St->Hp->Prop
 rt:VK
 bk:St->Hp->Prop:=fun _ _=>False
 ct:St->Hp->Prop:=fun _ _=>False
abbrev TS:=Ends->St->Hp->Prop
def EP (X:Cx) (pins:List (Addr × Obj)) (σ:St) (Q:VK) (u:Value) (s':Shared):Prop:=∃v H',Inv X pins σ H' s'/\RelV v u/\Q v H'
def TP (X:Cx) (pins:List (Addr × Obj)) (σ:St) (Q:Bool->Hp->Prop) (b:Bool) (s':Shared):Prop:=∃H',Inv X pins σ H' s'/\Q b H'
def AP (X:Cx) (pins:List (Addr × Obj)) (σ:St) (Q:List V->Hp->Prop) (us:List Value) (s':Shared):Prop:=∃vs H',Inv X pins σ H' s'/\Vals vs us/\Q vs H'
def SP (X:Cx) (pins:List (Addr × Obj)) (D:Ends) (f:Flow) (s':Shared):Prop:=
 match f with
 | .next=>∃σ' H',Inv X pins σ' H' s'/\D.nx σ' H'
 | .brk=>∃σ' H',Inv X pins σ' H' s'/\D.bk σ' H'
 | .cont=>∃σ' H',Inv X pins σ' H' s'/\D.ct σ' H'
 | .ret u=>∃v σ' H',Inv X pins σ' H' s'/\RelV v u/\D.rt v H'
def PE (X:Cx) (e:Expr) (t:TE):Prop:=
 ∀(pins:List (Addr × Obj)) (s:Shared) (σ:St) (H:Hp) (Q:VK),Inv X pins σ H s->t σ H Q->wpAny (model X.prog X.w) X.A (eval e X.env) (EP X pins σ Q) X.xe s
def PT (X:Cx) (e:Expr) (t:TT):Prop:=
 ∀(pins:List (Addr × Obj)) (s:Shared) (σ:St) (H:Hp) (Q:Bool->Hp->Prop),Inv X pins σ H s->t σ H Q->wpAny (model X.prog X.w) X.A (isTrue e X.env (eval e X.env)) (TP X pins σ Q) X.xe s
def PW (X:Cx) (e:Expr) (t:TT):Prop:=
 ∀(whole:Sem Value) (pins:List (Addr × Obj)) (s:Shared) (σ:St) (H:Hp) (Q:Bool->Hp->Prop),Inv X pins σ H s->t σ H Q->wpAny (model X.prog X.w) X.A (isTrue e X.env whole) (TP X pins σ Q) X.xe s
theorem PW.pt {X:Cx} {e:Expr} {t:TT} (h:PW X e t):PT X e t:=h _
def PA (X:Cx) (es:List Expr) (t:TA):Prop:=
 ∀(pos:Pos) (pins:List (Addr × Obj)) (s:Shared) (σ:St) (H:Hp) (Q:List V->Hp->Prop),Inv X pins σ H s->t σ H Q->wpAny (model X.prog X.w) X.A (spliced (backTo pos (starEach es X.env))) (AP X pins σ Q) X.xe s
def PS (X:Cx) (st:Stmt) (t:TS):Prop:=
 ∀(pins:List (Addr × Obj)) (s:Shared) (σ:St) (H:Hp) (D:Ends),Inv X pins σ H s->t D σ H->wpAny (model X.prog X.w) X.A (exec st X.env) (SP X pins D) X.xe s
def PSs (X:Cx) (st:List Stmt) (t:TS):Prop:=
 ∀(pins:List (Addr × Obj)) (s:Shared) (σ:St) (H:Hp) (D:Ends),Inv X pins σ H s->t D σ H->wpAny (model X.prog X.w) X.A (execs st X.env) (SP X pins D) X.xe s
theorem thn {α:Type} {t:Sem α} {Q Q':α->Shared->Prop} {M:Model} {A:Around} {E:Value->Shared->Prop} {s:Shared} (h:wpAny M A t Q E s) (hQ:∀a s,Q a s->Q' a s):wpAny M A t Q' E s:=wpAny_mono h hQ fun _ _ x=>x
section
variable {X:Cx}
theorem bin {a b:Expr} {ta tb:TE} (ha:PE X a ta) (hb:PE X b tb) {pins:List (Addr × Obj)} {s:Shared} {σ:St} {H:Hp} {R:V->V->Hp->Prop} (I:Inv X pins σ H s) (h:ta σ H fun x H1=>tb σ H1 fun y H2=>R x y H2)
  {α:Type} {Q:α->Shared->Prop} {f:Value->Value->Sem α}
  (hf:∀v u s2 x y H2,Inv X pins σ H2 s2->RelV x v->RelV y u->R x y H2->wpAny (model X.prog X.w) X.A (f v u) Q X.xe s2) :
  wpAny (model X.prog X.w) X.A (eval a X.env) (fun v s₁=>wpAny (model X.prog X.w) X.A (eval b X.env) (fun u s₂=>wpAny (model X.prog X.w) X.A (f v u) Q X.xe s₂) X.xe s₁) X.xe s:=by
 refine thn (ha pins s σ H _ I h) fun v s1 ⟨x,H1,I1,r1,q1⟩=>?_
 refine thn (hb pins s1 σ H1 _ I1 q1) fun u s2 ⟨y,H2,I2,r2,q2⟩=>?_
 exact hf v u s2 x y H2 I2 r1 r2 q2
def tVar (i:Nat):TE:=fun σ H Q=>∃v,σ[i]? = some (some v)/\Q v H
def tC (v:V):TE:=fun _ H Q=>Q v H
theorem pe_var {i:Nat} {x:Str} {pos:Pos} (hN:X.N[i]? = some x) (hv:Vis X.env.scope x) (hd:(x == ("__debug__":Str))=false:=by decide) (hcd:(x == ("__classdict__":Str))=false:=by decide):PE X (.Name x pos) (tVar i):=by
 intro pins s σ H Q I h
 obtain ⟨v,e,h⟩:=h
 obtain ⟨m,hn,hl⟩:=I.loc
 obtain ⟨u,r,l⟩:=hl i x v hN e hv
 have fin:EP X pins σ Q u s:=⟨v,H,I,r,h⟩
 rcases l with ⟨hk,hm⟩|⟨hk,c,hc,hcell⟩
 ·exact wpAny_Name (wpAny_loadName_local I.ok.kind hk hn hm fin) hd
 ·rcases hk with hk|hk
  ·exact wpAny_Name (wpAny_loadName_cell I.ok.kind hk hc hcell fin) hd
  ·exact wpAny_Name (wpAny_loadName_free I.ok.kind hk hc hcell fin hcd) hd
theorem pe_int {i j pos}:PE X (.Constant (.int i) j pos) (tC (.int i)):=fun _ _ _ H _ I h=>wpAny_Constant_int ⟨.int i,H,I.tok _,⟨_,rfl⟩,h⟩
theorem pe_bl {b j pos}:PE X (.Constant (.bool b) j pos) (tC (.bl b)):=fun _ _ _ H _ I h=>Constant_bool ⟨.bl b,H,I,rfl,h⟩
def Gl (X:Cx) (x:Str):Prop:=X.env.kindOf x=some .globalImplicit
theorem ld_glob {E:Value->Shared->Prop} {pins:List (Addr × Obj)} {s:Shared} {σ:St} {H:Hp} {x:Str} {u:Value} {pos:Pos} {Q:Value->Shared->Prop} (I:Inv X pins σ H s) (hg:Gl X x) (hm:X.mg x=some u) (h:Q u s)
  (hd:(x == ("__debug__":Str))=false:=by decide):wpAny (model X.prog X.w) X.A (eval (.Name x pos) X.env) Q E s:=
 Calls.Name_function_global I.ok.kind hg (Calls.loadGlobal_global (by rw [I.ok.glob];exact I.mod.glob.keeps I.bk) hm h) hd
theorem ld_blt {E:Value->Shared->Prop} {pins:List (Addr × Obj)} {s:Shared} {σ:St} {H:Hp} {x:Str} {u:Value} {pos:Pos} {Q:Value->Shared->Prop} (I:Inv X pins σ H s) (hg:Gl X x) (hm:X.mg x=none) (hv:bootBuiltins x=some u) (h:Q u s)
  (hn:x≠"__name__":=by decide) (hd:(x == ("__debug__":Str))=false:=by decide):wpAny (model X.prog X.w) X.A (eval (.Name x pos) X.env) Q E s:=by
 obtain ⟨mb,h1,h2⟩:=I.mod.blt
 exact Calls.Name_function_global I.ok.kind hg (Calls.loadGlobal_builtin (by rw [I.ok.glob];exact I.mod.glob.keeps I.bk) hm (by rw [I.ok.blt];exact h1.keeps I.bk) ((h2 x hn).trans hv) h) hd
theorem pe_glob {x:Str} {v:V} {u:Value} {pos:Pos} (hg:Gl X x) (hm:X.mg x=some u) (r:RelV v u) (hd:(x == ("__debug__":Str))=false:=by decide):PE X (.Name x pos) (tC v):=
 fun _ _ _ H _ I h=>ld_glob I hg hm ⟨v,H,I,r,h⟩ hd
theorem pe_bltn {x:Str} {v:V} {u:Value} {pos:Pos} (hg:Gl X x) (hm:X.mg x=none) (hv:bootBuiltins x=some u) (r:RelV v u) (hn:x≠"__name__":=by decide) (hd:(x == ("__debug__":Str))=false:=by decide):PE X (.Name x pos) (tC v):=
 fun _ _ _ H _ I h=>ld_blt I hg hm hv ⟨v,H,I,r,h⟩ hn hd
variable {a b:Expr} {ta tb:TE} {pos:Pos}
def PC (X:Cx) (op:CmpOp) (a b:Expr) (t:TE):Prop:=
 ∀(pins:List (Addr × Obj)) (s:Shared) (σ:St) (H:Hp) (Q:VK),Inv X pins σ H s->t σ H Q->
  wpAny (model X.prog X.w) X.A (eval a X.env) (fun v s₁=>wpAny (model X.prog X.w) X.A (eval b X.env) (fun u s₂=>wpAny (model X.prog X.w) X.A (compareOp op v u) (EP X pins σ Q) X.xe s₂) X.xe s₁) X.xe s
theorem nobehind (b:Expr) {op:CmpOp} (h:op≠.In) (h2:op≠.NotIn):behindInMarks op b=false:=by
 have e1:(op == CmpOp.In)=false:=by cases op<;>first|rfl|exact absurd rfl h
 have e2:(op == CmpOp.NotIn)=false:=by cases op<;>first|rfl|exact absurd rfl h2
 cases b<;>simp [behindInMarks,e1,e2]
def tB (t:TE):TT:=fun σ H Q=>t σ H fun x H1=>∃c,x=.bl c/\Q c H1
theorem pe_cmp {op:CmpOp} {t:TE} (h:PC X op a b t) (h1:behindInMarks op b=false:=by first|exact nobehind _ (by decide) (by decide)|rfl):PE X (.Compare a [op] [b] pos) t:=fun pins s σ H Q I hw=>wpAny_Compare1 (h pins s σ H Q I hw) h1
theorem pt_cmp {op:CmpOp} {t:TE} (h:PC X op a b t) (h1:behindInMarks op b=false:=by first|exact nobehind _ (by decide) (by decide)|rfl):PT X (.Compare a [op] [b] pos) (tB t):=by
 intro pins s σ H Q I hw
 refine wpAny_isTrue_Compare1 (thn (h pins s σ H _ I hw) fun v s1 h1=>thn h1 fun u s2 h2=>thn h2 fun c s3 ⟨x,H1,I1,r1,q1⟩=>?_) h1
 obtain ⟨d,rfl,q⟩:=q1
 cases r1
 exact wpAny_truthy_bool ⟨H1,I1,q⟩
theorem pt_val {e : Expr} {t : TE} (h : PE X e t) (he : ∀ whole, isTrue e X.env whole = (do let v ← whole; standAt e.pos; holding [v] (truthy v)) := by intro _; rfl) : PT X e (tB t) := by
  intro pins s σ H Q I hw
  refine isTrue_plain (thn (h pins s σ H _ I hw) fun v s1 ⟨x, H1, I1, r1, q1⟩ => ?_) (he _)
  obtain ⟨d, rfl, q⟩ := q1
  cases r1
  exact wpAny_truthy_bool ⟨H1, I1, q⟩
variable {tA tB':TT} {rest:List Expr}
def tAnd (t u:TT):TT:=fun σ H Q=>t σ H fun c H1=>if c=true then u σ H1 Q else Q false H1
def tOr (t u:TT):TT:=fun σ H Q=>t σ H fun c H1=>if c=true then Q true H1 else u σ H1 Q
def tNot (t:TT):TT:=fun σ H Q=>t σ H fun c H1=>Q (!c) H1
theorem pw_and1 (ha:PT X a tA):PW X (.BoolOp .And [a] pos) tA:=by
 intro wh pins s σ H Q I h
 refine isTrue_and (thn (ha pins s σ H Q I h) fun c s1 e=>?_)
 cases c with
 | true=>exact isTrue_and_nil e
 | false=>exact e
theorem pw_or1 (ha:PT X a tA):PW X (.BoolOp .Or [a] pos) tA:=by
 intro wh pins s σ H Q I h
 refine isTrue_or (thn (ha pins s σ H Q I h) fun c s1 e=>?_)
 cases c with
 | false=>exact isTrue_or_nil e
 | true=>exact e
theorem pw_and (ha:PT X a tA) (hb:PW X (.BoolOp .And (b::rest) pos) tB'):PW X (.BoolOp .And (a::b::rest) pos) (tAnd tA tB'):=by
 intro wh pins s σ H Q I h
 refine isTrue_and (thn (ha pins s σ H _ I h) fun c s1 ⟨H1,I1,q1⟩=>?_)
 cases c with
 | true=>exact hb wh pins s1 σ H1 Q I1 q1
 | false=>exact ⟨H1,I1,q1⟩
theorem pw_or (ha:PT X a tA) (hb:PW X (.BoolOp .Or (b::rest) pos) tB'):PW X (.BoolOp .Or (a::b::rest) pos) (tOr tA tB'):=by
 intro wh pins s σ H Q I h
 refine isTrue_or (thn (ha pins s σ H _ I h) fun c s1 ⟨H1,I1,q1⟩=>?_)
 cases c with
 | true=>exact ⟨H1,I1,q1⟩
 | false=>exact hb wh pins s1 σ H1 Q I1 q1
theorem pt_not (ha:PT X a tA):PT X (.UnaryOp .Not a pos) (tNot tA):=by
 intro pins s σ H Q I h
 exact isTrue_not (ha pins s σ H (fun c H1=>Q (!c) H1) I h)
def tAndV (ta tb:TE):TE:=fun σ H Q=>ta σ H fun x H1=>∃c,x=.bl c/\if c=true then tb σ H1 Q else Q (.bl false) H1
def tNotV (ta:TE):TE:=fun σ H Q=>ta σ H fun x H1=>∃c,x=.bl c/\Q (.bl (!c)) H1
theorem pe_one {op} {t:TE} (h:PE X a t):PE X (.BoolOp op [a] pos) t:=fun pins s σ H Q I hw=>BoolOp_one (h pins s σ H Q I hw)
theorem pe_and (ha:PE X a ta) (hb:PE X (.BoolOp .And (b::rest) pos) tb):PE X (.BoolOp .And (a::b::rest) pos) (tAndV ta tb):=by
 intro pins s σ H Q I h
 refine BoolOp_and (thn (ha pins s σ H _ I h) fun v s1 ⟨x,H1,I1,r1,q1⟩=>?_)
 obtain ⟨c,rfl,q1⟩:=q1
 cases r1
 refine wpAny_truthy_bool ?_
 cases c with
 | true=>exact hb pins s1 σ H1 Q I1 q1
 | false=>exact ⟨.bl false,H1,I1,rfl,q1⟩
theorem pe_not (ha:PE X a ta):PE X (.UnaryOp .Not a pos) (tNotV ta):=by
 intro pins s σ H Q I h
 refine UnaryOp_ (thn (ha pins s σ H _ I h) fun v s1 ⟨x,H1,I1,r1,q1⟩=>?_)
 obtain ⟨c,rfl,q1⟩:=q1
 cases r1
 exact not_of (wpAny_truthy_bool ⟨.bl (!c),H1,I1,rfl,q1⟩)
def tIf (t:TT) (ta tb:TE):TE:=fun σ H Q=>t σ H fun c H1=>if c=true then ta σ H1 Q else tb σ H1 Q
theorem pe_ifExp {c:Expr} (hc:PT X c tA) (ha:PE X a ta) (hb:PE X b tb):PE X (.IfExp c a b pos) (tIf tA ta tb):=by
 intro pins s σ H Q I h
 refine wpAny_IfExp (thn (hc pins s σ H _ I h) fun d s1 ⟨H1,I1,q1⟩=>?_)
 cases d with
 | true=>exact ha pins s1 σ H1 Q I1 q1
 | false=>exact hb pins s1 σ H1 Q I1 q1
end
def SqL (K:PySem.W.Frag) (H:Hp) (a:Addr) (xs:List V):Prop:=
 Rd H a (.lst xs) \/
  ∃(o:Obj) (its:Array Value) (n:Nat),K.lookup a=some o/\o.cls=.type "list"/\o.dict=none/\o.data=.seq its n/\its.size<=sizeLine/\Vals xs its.toList
def SqT (K:PySem.W.Frag) (H:Hp) (a:Addr) (xs:List V):Prop:=
 Rd H a (.tup xs) \/
  ∃(o:Obj) (its:Array Value) (n:Nat),K.lookup a=some o/\o.cls=.type "tuple"/\o.data=.seq its n/\its.size<=sizeLine/\Vals xs its.toList
def absV:Value->Option V
 | .none=>some .non
 | .bool b=>some (.bl b)
 | .int i _=>some (.int i)
 | .str x _=>some (.str x)
 | .bytes b _=>some (.byt b)
 | .float b _=>some (.flt b)
 | .ref a=>some (.ref a)
 | .type n=>some (.ty n)
 | _=>none
theorem RelV.abs {x:V} {u:Value} (r:RelV x u):absV u=some x:=by
 cases x with
 | non=>cases r;rfl
 | bl _=>cases r;rfl
 | int _=>obtain ⟨t,rfl⟩:=r;rfl
 | str _=>obtain ⟨t,rfl⟩:=r;rfl
 | byt _=>obtain ⟨t,rfl⟩:=r;rfl
 | flt _=>obtain ⟨t,rfl⟩:=r;rfl
 | ref _=>cases r;rfl
 | ty _=>cases r;rfl
theorem RelV.inj {x y:V} {u:Value} (r:RelV x u) (q:RelV y u):x=y:=Option.some.inj (r.abs.symm.trans q.abs)
theorem Vals.inj:∀{xs ys:List V} {us:List Value},Vals xs us->Vals ys us->xs=ys
 | _,_,_,.nil,.nil=>rfl
 | _,_,_,.cons r t,.cons r' t'=>by rw [r.inj r',Vals.inj t t']
section
variable {X:Cx} {pins:List (Addr × Obj)} {σ:St} {H:Hp} {s:Shared} {a:Addr} {xs ys:List V}
theorem SqL.of {K:PySem.W.Frag} (h:H a=some (.lst xs)):SqL K H a xs:=.inl (.inl h)
theorem SqT.of {K:PySem.W.Frag} (h:H a=some (.tup xs)):SqT K H a xs:=.inl (.inl h)
theorem Inv.list (I:Inv X pins σ H s) (h:SqL X.K H a xs):∃its:List Value,Vals xs its/\PlainL s.heap a its.toArray/\xs.length<=sizeLine:=by
 rcases h with h|⟨o,its,n,hk,hc,hd,hs,hz,r⟩
 ·obtain ⟨z,its,n,r,e⟩:=h.ok I.hok
  exact ⟨its,r,⟨_,n,e,rfl,rfl,rfl⟩,z⟩
 ·refine ⟨its.toList,r,⟨o,n,I.kIn a o hk,hc,hd,by simpa using hs⟩,?_⟩
  have e:=r.length
  simp only [Array.length_toList] at e
  omega
theorem Inv.tuple (I:Inv X pins σ H s) (h:SqT X.K H a xs):∃its:List Value,Vals xs its/\IsTup s.heap a its.toArray/\xs.length<=sizeLine:=by
 rcases h with h|⟨o,its,n,hk,hc,hs,hz,r⟩
 ·obtain ⟨z,its,r,p⟩:=h.ok I.hok
  exact ⟨its,r,p,z⟩
 ·refine ⟨its.toList,r,⟨o,I.kIn a o hk,hc,n,by simpa using hs⟩,?_⟩
  have e:=r.length
  simp only [Array.length_toList] at e
  omega
theorem Inv.list_inj (I:Inv X pins σ H s) (h:SqL X.K H a xs) (h':SqL X.K H a ys):xs=ys:=by
 obtain ⟨its,r,⟨o,n,e,_,_,d⟩,_⟩:=I.list h
 obtain ⟨its',r',⟨o',n',e',_,_,d'⟩,_⟩:=I.list h'
 rw [e] at e';cases e'
 rw [d] at d'
 injection d' with d1 _
 have:its=its':=by simpa using congrArg Array.toList d1
 subst this
 exact r.inj r'
end
abbrev Cx.wish (X:Cx) (E:Value->Shared->Prop):Cx:={ X with xe:=E }
abbrev Cx.nox (X:Cx):Cx:=X.wish fun _ _=>False
theorem Cx.Ok.wish {X:Cx} (ok:X.Ok) (E:Value->Shared->Prop):(X.wish E).Ok:=
 ⟨ok.mod,ok.kind,ok.glob,ok.blt,ok.above,ok.inj,ok.has,ok.cab,ok.hd,ok.frames,ok.stk,ok.exf,ok.bs,ok.bsz,ok.noex,ok.exfs,ok.funs,ok.frf⟩
theorem Cx.Ok.unwish {X:Cx} {E:Value->Shared->Prop} (ok:(X.wish E).Ok):X.Ok:=
 ⟨ok.mod,ok.kind,ok.glob,ok.blt,ok.above,ok.inj,ok.has,ok.cab,ok.hd,ok.frames,ok.stk,ok.exf,ok.bs,ok.bsz,ok.noex,ok.exfs,ok.funs,ok.frf⟩
section
variable {X:Cx} {pins:List (Addr × Obj)} {σ:St} {H:Hp} {s:Shared} {E:Value->Shared->Prop}
theorem Inv.wish (I:Inv X pins σ H s) (E:Value->Shared->Prop):Inv (X.wish E) pins σ H s:=⟨I.ok.wish E,I.os,I.bare,I.base,I.loc,I.cell,I.free,I.freeC,I.pin,I.hok,I.len⟩
theorem Inv.unwish (I:Inv (X.wish E) pins σ H s):Inv X pins σ H s:=⟨I.ok.unwish,I.os,I.bare,I.base,I.loc,I.cell,I.free,I.freeC,I.pin,I.hok,I.len⟩
theorem SP.unwish {D:Ends} {f:Flow} {s':Shared} (h:SP (X.wish E) pins D f s'):SP X pins D f s':=by
 cases f with
 | next=>obtain ⟨σ',H',I,q⟩:=h;exact ⟨σ',H',I.unwish,q⟩
 | brk=>obtain ⟨σ',H',I,q⟩:=h;exact ⟨σ',H',I.unwish,q⟩
 | cont=>obtain ⟨σ',H',I,q⟩:=h;exact ⟨σ',H',I.unwish,q⟩
 | ret u=>obtain ⟨v,σ',H',I,r,q⟩:=h;exact ⟨v,σ',H',I.unwish,r,q⟩
theorem PSs.nox {st:List Stmt} {t:TS} (h:PSs X.nox st t):PSs X st t:=fun pins s σ H D I hw=>
 wpAny_mono (h pins s σ H D (I.wish _) hw) (fun _ _ q=>q.unwish) fun _ _ z=>False.elim z
end
section
variable {X:Cx} {st:Stmt} {rest:List Stmt} {t u:TS} {e:Expr} {te:TE} {pos:Pos}
def tNext:TS:=fun D σ H=>D.nx σ H
def tSeq (t u:TS):TS:=fun D σ H=>t { D with nx:=u D } σ H
theorem pss_nil:PSs X [] tNext:=fun _ _ σ H _ I h=>wpAny_execs_nil ⟨σ,H,I,h⟩
theorem pss_cons (h1:PS X st t) (h2:PSs X rest u):PSs X (st::rest) (tSeq t u):=by
 intro pins s σ H D I h
 refine wpAny_execs_cons (thn (h1 pins s σ H { D with nx:=u D } I h) fun f s1 q=>?_)
 cases f with
 | next=>
  obtain ⟨σ',H',I',q⟩:=q
  exact h2 pins s1 σ' H' D I' q
 | ret v=>exact q
 | brk=>exact q
 | cont=>exact q
theorem pss_one (h1:PS X st t):PSs X [st] t:=by
 intro pins s σ H D I h
 refine wpAny_execs_cons (thn (h1 pins s σ H D I h) fun f s1 q=>?_)
 cases f with
 | next=>exact wpAny_execs_nil q
 | ret v=>exact q
 | brk=>exact q
 | cont=>exact q
theorem Inv.quiet {pins:List (Addr × Obj)} {σ:St} {H:Hp} {s:Shared} (I:Inv X pins σ H s):interactive X.env=false:=by simp [interactive,I.ok.kind]
def tDrop (te:TE):TS:=fun D σ H=>te σ H fun _ H1=>D.nx σ H1
theorem ps_expr (he:PE X e te) (hs:swapsWith e none pos.line X.env=pure false:=by rfl):PS X (.Expr e pos) (tDrop te):=by
 intro pins s σ H D I h
 exact wpAny_Expr_any (thn (he pins s σ H _ I h) fun v s1 ⟨x,H1,I1,r1,q1⟩=>⟨σ,H1,I1,q1⟩) I.quiet hs
def tRet (te:TE):TS:=fun D σ H=>te σ H D.rt
theorem ps_ret (he:PE X e te):PS X (.Return (some e) pos) (tRet te):=by
 intro pins s σ H D I h
 exact wpAny_Return_some (thn (he pins s σ H _ I h) fun v s1 ⟨x,H1,I1,r1,q1⟩=>⟨x,σ,H1,I1,r1,q1⟩)
def tIfS (c:TT) (t u:TS):TS:=fun D σ H=>c σ H fun b H1=>if b=true then t D σ H1 else u D σ H1
theorem ps_if {c:Expr} {a b:List Stmt} {tc:TT} (hc:PT X c tc) (ha:PSs X a t) (hb:PSs X b u):PS X (.If c a b pos) (tIfS tc t u):=by
 intro pins s σ H D I h
 refine wpAny_If (thn (hc pins s σ H _ I h) fun d s1 ⟨H1,I1,q1⟩=>?_)
 cases d with
 | true=>exact ha pins s1 σ H1 D I1 q1
 | false=>exact hb pins s1 σ H1 D I1 q1
end
abbrev TG:=V->St->Hp->(St->Hp->Prop)->Prop
abbrev TGs:=List V->St->Hp->(St->Hp->Prop)->Prop
def PG (X:Cx) (target:Expr) (t:TG):Prop:=
 ∀(pins:List (Addr × Obj)) (s:Shared) (σ:St) (H:Hp) (v:V) (u:Value) (Q:St->Hp->Prop),Inv X pins σ H s->RelV v u->t v σ H Q->
  wpAny (model X.prog X.w) X.A (assign target X.env u) (fun _ s'=>∃σ' H',Inv X pins σ' H' s'/\Q σ' H') X.xe s
def PGs (X:Cx) (ts:List Expr) (t:TGs):Prop:=
 ∀(pins:List (Addr × Obj)) (s:Shared) (σ:St) (H:Hp) (vs:List V) (us:List Value) (Q:St->Hp->Prop),Inv X pins σ H s->Vals vs us->t vs σ H Q->
  wpAny (model X.prog X.w) X.A (assignInOrder ((assignEach ts X.env).map (·.2)) us) (fun _ s'=>∃σ' H',Inv X pins σ' H' s'/\Q σ' H') X.xe s
abbrev TSet:=V->V->V->Hp->(Hp->Prop)->Prop
def PSet (X:Cx) (t:TSet):Prop:=
 ∀(pins:List (Addr × Obj)) (s:Shared) (σ:St) (H:Hp) (o i v:V) (ov iv u:Value) (Q:Hp->Prop),Inv X pins σ H s->RelV o ov->RelV i iv->RelV v u->t o i v H Q->
  wpAny (model X.prog X.w) X.A (setItem ov iv u) (fun _ s'=>∃H',Inv X pins σ H' s'/\Q H') X.xe s
abbrev TIp:=V->V->Hp->VK->Prop
def PIp (X:Cx) (op:Operator) (t:TIp):Prop:=
 ∀(pins:List (Addr × Obj)) (s:Shared) (σ:St) (H:Hp) (x y:V) (v u:Value) (Q:VK),Inv X pins σ H s->RelV x v->RelV y u->t x y H Q->
  wpAny (model X.prog X.w) X.A (inplaceOp op v u) (EP X pins σ Q) X.xe s
section
variable {X:Cx} {pos:Pos}
def gName (i:Nat):TG:=fun v σ H Q=>Q (σ.set i (some v)) H
theorem pg_name {i:Nat} {x:Str} (hN:X.N.Nodup) (hi:X.N[i]? = some x) (hx:Loc X.env.scope x) (hf:X.fn x=true\/X.env.scope.names.lookup x=some .local:=by first|exact .inl rfl|exact .inr rfl|assumption):PG X (.Name x pos) (gName i):=by
 intro pins s σ H v u Q I r h
 exact wpAny_assign_Name (store_ok I hN hi hx r (fun s' I'=>⟨_,H,I',h⟩) hf)
def gNil:TGs:=fun vs σ H Q=>vs=[]/\Q σ H
def gCons (t:TG) (u:TGs):TGs:=fun vs σ H Q=>∃v r,vs=v::r/\t v σ H fun σ' H'=>u r σ' H' Q
theorem pgs_nil:PGs X [] gNil:=by
 intro pins s σ H vs us Q I r h
 obtain ⟨e,h⟩:=h
 subst e
 cases r
 exact assignInOrder_nil ⟨σ,H,I,h⟩
theorem pgs_cons {e:Expr} {es:List Expr} {t:TG} {u:TGs} (h1:PG X e t) (h2:PGs X es u)
  (hs:(assignEach (e::es) X.env).map (·.2)=assign e X.env::(assignEach es X.env).map (·.2):=by rfl):PGs X (e::es) (gCons t u):=by
 intro pins s σ H vs us Q I r h
 obtain ⟨v,vr,e1,h⟩:=h
 subst e1
 cases r with
 | cons r rr=>
  rw [hs]
  refine assignInOrder_cons (thn (h1 pins s σ H _ _ _ I r h) fun _ s1 ⟨σ1,H1,I1,q1⟩=>?_)
  exact h2 pins s1 σ1 H1 _ _ Q I1 rr q1
def gTup (K:PySem.W.Frag) (n:Nat) (t:TGs):TG:=fun v σ H Q=>∃a xs,v=.ref a/\SqT K H a xs/\xs.length=n/\t xs σ H Q
theorem pg_tup {es:List Expr} {k:Nat} {t:TGs} {n:Nat} (hc:X.calm=true) (h:PGs X es t)
  (hn:(assignEach es X.env).length=n:=by rfl) (hst:(assignEach es X.env).findIdx? (·.1)=none:=by rfl):PG X (.Tuple es k pos) (gTup X.K n t):=by
 intro pins s σ H v u Q I r hw
 obtain ⟨a,xs,e1,hq,hl,hw⟩:=hw
 subst e1
 cases r
 obtain ⟨its,rv,ht,hz⟩:=I.tuple hq
 refine assign_Tuple_tuple (I.ok.hd hc) ht (by simp [hn,<-hl,rv.length]) hst fun h' hx=>?_
 have I1:Inv X pins σ H { s with heap:=h' }:=I.kept (t':=s.toks) fun b o e=>hx b o (Nat.ne_of_lt (Heap.lt_size e)) e
 exact h pins _ σ H xs _ Q I1 (by simpa using rv) hw
def gSub (to ti:TE) (t:TSet):TG:=fun v σ H Q=>to σ H fun o H1=>ti σ H1 fun i H2=>t o i v H2 fun H3=>Q σ H3
theorem pg_sub {o i : Expr} {to ti : TE} {t : TSet} (ho : PE X o to) (hi : PE X i ti) (hs : PSet X t)
    (ha : ∀ v, assign (.Subscript o i pos) X.env v = (do
      let ov ← holding [v] (eval o X.env)
      let iv ← holding [v, ov] (eval i X.env)
      standAt pos
      holding [v, ov, iv] (setItem ov iv v)
      release [v, ov, iv] []) := by intro _; rfl) : PG X (.Subscript o i pos) (gSub to ti t) := by
  intro pins s σ H v u Q I r h
  rw [ha]
  refine wpAny_bind (wpAny_holding (thn (ho pins s σ H _ I h) fun ov s1 ⟨x, H1, I1, r1, q1⟩ => ?_))
  refine wpAny_bind (wpAny_holding (thn (hi pins s1 σ H1 _ I1 q1) fun iv s2 ⟨y, H2, I2, r2, q2⟩ => ?_))
  refine wpAny_bind (wpAny_standAt (wpAny_bind (wpAny_holding (thn (hs pins s2 σ H2 x y v ov iv u _ I2 r1 r2 r q2) fun _ s3 ⟨H3, I3, q3⟩ => ?_))))
  exact wpAny_release ⟨σ, H3, I3, q3⟩
def tAsg (te:TE) (g:TG):TS:=fun D σ H=>te σ H fun x H1=>g x σ H1 D.nx
theorem ps_asg {tg e:Expr} {te:TE} {g:TG} (he:PE X e te) (hg:PG X tg g) (hs:swapsWithSole [tg] e pos.line X.env=pure false:=by rfl) (hw:swappedStores [tg] e X.env=pure none:=by rfl)
  (h1:(assignEach [tg] X.env).map (·.2)=[assign tg X.env]:=by rfl):PS X (.Assign [tg] e pos) (tAsg te g):=by
 intro pins s σ H D I h
 refine wpAny_Assign_stores (thn (he pins s σ H _ I h) fun v s1 ⟨x,H1,I1,r1,q1⟩=>?_) hs hw
 rw [h1]
 exact thn (hg pins s1 σ H1 x v _ I1 r1 q1) fun _ s2 q=>q
theorem ps_set {i:Nat} {x:Str} {e:Expr} {te:TE} {pos':Pos} (hN:X.N.Nodup) (hi:X.N[i]? = some x) (hx:Loc X.env.scope x) (he:PE X e te) (hs:swapsWith e (some (.Name x pos')) pos.line X.env=pure false:=by rfl) (hf:X.fn x=true\/X.env.scope.names.lookup x=some .local:=by first|exact .inl rfl|exact .inr rfl|assumption) :
  PS X (.Assign [.Name x pos'] e pos) (tAsg te (gName i)):=by
 intro pins s σ H D I h
 refine wpAny_Assign_Name (thn (he pins s σ H _ I h) fun v s1 ⟨y,H1,I1,r1,q1⟩=>?_) hs
 exact store_ok I1 hN hi hx r1 (fun s2 I2=>⟨_,H1,I2,q1⟩) hf
def tAug (i:Nat) (te:TE) (ti:TIp):TS:=fun D σ H=>∃x,σ[i]? = some (some x)/\te σ H fun y H1=>ti x y H1 fun z H2=>D.nx (σ.set i (some z)) H2
theorem ps_aug {i:Nat} {x:Str} {e:Expr} {te:TE} {op:Operator} {ti:TIp} {pos':Pos} (hN:X.N.Nodup) (hi:X.N[i]? = some x) (hx:Loc X.env.scope x) (he:PE X e te) (ho:PIp X op ti) (hf:X.fn x=true\/X.env.scope.names.lookup x=some .local:=by first|exact .inl rfl|exact .inr rfl|assumption) :
  PS X (.AugAssign (.Name x pos') op e pos) (tAug i te ti):=by
 intro pins s σ H D I h
 obtain ⟨v,e1,h⟩:=h
 obtain ⟨m,hn,hl⟩:=I.loc
 have vis:Vis X.env.scope x:=by rcases hx with k|k;exact .inl k;exact .inr (.inl k)
 obtain ⟨u,r,l⟩:=hl i x v hi e1 vis
 refine wpAny_AugAssign_Name ?_
 have go:wpAny (model X.prog X.w) X.A (eval e X.env) (fun w s₂=>wpAny (model X.prog X.w) X.A (inplaceOp op u w) (fun r s₃=>wpAny (model X.prog X.w) X.A (storeName X.env x r) (fun _=>SP X pins D .next) X.xe s₃) X.xe s₂) X.xe s:=by
  refine thn (he pins s σ H _ I h) fun w s1 ⟨y,H1,I1,r1,q1⟩=>?_
  refine thn (ho pins s1 σ H1 v y u w _ I1 r r1 q1) fun z s2 ⟨zv,H2,I2,r2,q2⟩=>?_
  exact store_ok I2 hN hi hx r2 (fun s3 I3=>⟨_,H2,I3,q2⟩) hf
 rcases l with ⟨hk,hm⟩|⟨hk,c,hc,hcell⟩
 ·exact wpAny_loadName_local I.ok.kind hk hn hm go
 ·rcases hk with hk|hk
  ·exact wpAny_loadName_cell I.ok.kind hk hc hcell go
  ·rcases hx with k|k
   ·have:X.env.scope.names.lookup x=some .free:=hk
    rw [k] at this;cases this
   ·have:X.env.scope.names.lookup x=some .free:=hk
    rw [k] at this;cases this
end
section
variable {X:Cx} {pos:Pos}
def tWhile (c:TT) (tb:TS):TS:=fun D σ H=>∃W:Nat->St->Hp->Prop,(∃m,W m σ H)/\∀m σ H,W m σ H->
 c σ H fun b H1=>if b=true then ∃N:St->Hp->Prop,(∀σ' H',N σ' H'->∃m',m'<m/\W m' σ' H')/\tb { D with nx:=N,ct:=N,bk:=D.nx } σ H1 else D.nx σ H1
theorem ps_while {c:Expr} {body:List Stmt} {tc:TT} {tb:TS} (hp:PassesOwn (model X.prog X.w) X.A X.env X.xe) (hc:PT X c tc) (hb:PSs X body tb):PS X (.While c body [] pos) (tWhile tc tb):=by
 intro pins s σ H D I h
 obtain ⟨W,⟨m0,w0⟩,turn⟩:=h
 refine wpAny_While (codeAny_whileLoop (fun n s'=>∃σ' H',Inv X pins σ' H' s'/\W n σ' H') ?_ m0 ⟨σ,H,I,w0⟩)
 rintro n s1 ⟨σ1,H1,I1,w1⟩
 refine wpAny_passesOwn hp (thn (hc pins s1 σ1 H1 _ I1 (turn n σ1 H1 w1)) fun b s2 ⟨H2,I2,q2⟩=>?_)
 cases b with
 | true=>
  obtain ⟨N,hN,q2⟩:=q2
  rw [if_pos rfl]
  refine wpAny_passesOwn hp (thn (hb pins s2 σ1 H2 _ I2 q2) fun f s3 q3=>?_)
  cases f with
  | next=>
   obtain ⟨σ3,H3,I3,n3⟩:=q3
   obtain ⟨m',hm,w3⟩:=hN σ3 H3 n3
   exact ⟨m',hm,σ3,H3,I3,w3⟩
  | cont=>
   obtain ⟨σ3,H3,I3,n3⟩:=q3
   obtain ⟨m',hm,w3⟩:=hN σ3 H3 n3
   exact ⟨m',hm,σ3,H3,I3,w3⟩
  | brk=>exact q3
  | ret v=>exact q3
 | false=>
  rw [if_neg Bool.false_ne_true]
  exact wpAny_execs_nil ⟨σ1,H2,I2,q2⟩
end
structure It where
 go:Nat->Hp->Prop
 yld:Nat->Hp->V->Hp->Prop
 stop:Nat->Hp->Prop
def FpOk (X:Cx) (pins:List (Addr × Obj)) (H:Hp) (b:Addr):Prop:=
 H b=none/\b≠X.env.locals/\b ∉ X.fs/\(b∈X.ex\/X.s₀.heap.objs.size<=b)/\(∀x c,X.env.cells.lookup x=some c->c≠b)/\∀p∈X.pn++pins,p.1≠b
theorem Inv.fpOk {X:Cx} {pins:List (Addr × Obj)} {σ:St} {H H':Hp} {s:Shared} {b:Addr} (I:Inv X pins σ H s) (hb:s.heap.objs.size<=b) (hn:H' b=none):FpOk X pins H' b:=by
 refine ⟨hn,Nat.ne_of_gt (Nat.lt_of_lt_of_le I.lt hb),I.nofs hb,.inr (Nat.le_trans I.sz hb),fun x c e z=>?_,fun p hp z=>?_⟩
 ·obtain ⟨v,q⟩:=I.cell x c e
  exact absurd (Nat.lt_of_lt_of_le q.lt (by rw [z];exact hb)) (Nat.lt_irrefl _)
 ·exact absurd (Nat.lt_of_lt_of_le (Heap.lt_size (I.pin p hp).1) (by rw [z];exact hb)) (Nat.lt_irrefl _)
structure Turn (P:Program) (w:World) (K:PySem.W.Frag) (tg:Expr) (J:It) (fp:List Addr) (it:Addr) (tn:Nat->Heap->Prop):Prop where
 mem:it∈fp
 obj:∀i h,tn i h->∀b∈fp,∃o,h.get? b=some o/\∀v,o.data≠.cell v
 keep:∀i h h',tn i h->(∀b∈fp,∀o,h.get? b=some o->h'.get? b=some o)->tn i h'
 item:∀(X:Cx),X.prog=P->X.w=w->X.K=K->X.calm=true->∀(i:Nat) (pins:List (Addr × Obj)) (s:Shared) (σ:St) (H:Hp) (E:Value->Shared->Prop),Inv X pins σ H s->(∀b∈fp,FpOk X pins H b)->tn i s.heap->J.go i H->
  wpAny (model P w) X.A (pyNext (.ref it)) (fun r s1=>∃u,r=some u /\
   wpAny (model P w) X.A (letOwnedTupleGo tg (.ref it) u) (fun _ s2=>∃x H',Inv X pins σ H' s2/\RelV x u/\J.yld i H x H'/\tn (i+1) s2.heap/\∀b∈fp,H' b=none) E s1) E s
 done:∀(X:Cx),X.prog=P->X.w=w->X.K=K->X.calm=true->∀(i:Nat) (pins:List (Addr × Obj)) (s:Shared) (σ:St) (H:Hp) (E:Value->Shared->Prop),Inv X pins σ H s->(∀b∈fp,FpOk X pins H b)->tn i s.heap->J.stop i H->
  wpAny (model P w) X.A (pyNext (.ref it)) (fun r s1=>r=none/\Inv X pins σ H s1) E s
 self:∀(A:Around) (i:Nat) (s:Shared) (Q:Value->Shared->Prop) (E:Value->Shared->Prop),tn i s.heap->Q (.ref it) s->wpAny (model P w) A (pyIter (.ref it)) Q E s
abbrev TI:=St->Hp->(It->Hp->Prop)->Prop
def PIE (X:Cx) (pins:List (Addr × Obj)) (σ:St) (tg:Expr) (R:It->Hp->Prop) (itv:Value) (s2:Shared):Prop:=
 ∃(it:Addr) (fp:List Addr) (tn:Nat->Heap->Prop) (J:It) (H':Hp),itv=.ref it/\Inv X pins σ H' s2/\Turn X.prog X.w X.K tg J fp it tn/\tn 0 s2.heap/\(∀b∈fp,FpOk X pins H' b)/\R J H'
def PI (X:Cx) (tg iter:Expr) (wi:TI):Prop:=
 ∀(pins:List (Addr × Obj)) (s:Shared) (σ:St) (H:Hp) (R:It->Hp->Prop),Inv X pins σ H s->wi σ H R->
  wpAny (model X.prog X.w) X.A (eval iter X.env) (fun v s1=>wpAny (model X.prog X.w) X.A (pyIter v) (PIE X pins σ tg R) X.xe s1) X.xe s
theorem go_of {M : Model} {A : Around} {E : Value → Shared → Prop} {s : Shared} {tg : Expr} {it : Addr} {u : Value} {o : Obj} {n : String} {vs : Array Value} {Q : Unit → Shared → Prop} (ho : s.heap.get? it = some o) (hc : o.cls = .type n) (hd : o.data = .fields vs)
    (hn : ["enumerate", "zip", "dict_itemiterator", "dict_reverseitemiterator", "odict_iterator", "itertools.zip_longest", "itertools.pairwise"].contains n = false) (hQ : Q () s) : wpAny M A (letOwnedTupleGo tg (.ref it) u) Q E s := by
  unfold letOwnedTupleGo
  cases tg <;> first
    | exact wpAny_pure hQ
    | (cases u <;> first
        | exact wpAny_pure hQ
        | (refine wpAny_bind (wpAny_load ho ?_)
           rw [hc, hd]
           show wpAny M A (if (["enumerate", "zip", "dict_itemiterator", "dict_reverseitemiterator", "odict_iterator", "itertools.zip_longest", "itertools.pairwise"].contains n && vs[0]? == some (rawInt _)) = true then _ else _) Q E s
           rw [if_neg (by intro h; rw [hn, Bool.false_and] at h; cases h)]
           exact wpAny_pure hQ))
def Itl (K:PySem.W.Frag) (a:Addr):It:=
 ⟨fun i H=>∃xs x,SqL K H a xs/\xs[i]? = some x,fun i H x H'=>H'=H/\∀xs,SqL K H a xs->xs[i]? = some x,fun i H=>∃xs,SqL K H a xs/\xs.length<=i⟩
def Itr (lo:Int) (n:Nat):It:=⟨fun i _=>i<n,fun i H x H'=>H'=H/\x=.int (lo+i),fun i _=>n<=i⟩
theorem turn_list {P:Program} {w:World} {K:PySem.W.Frag} {tg:Expr} (a it:Addr):Turn P w K tg (Itl K a) [it] it (fun i h=>h.IsListIter it a i) where
 mem:=by simp
 obj:=fun i h st b hb=>by
  have e:b=it:=by simpa using hb
  subst e
  obtain ⟨o,e,c,d⟩:=st
  exact ⟨o,e,fun v z=>by rw [d] at z;cases z⟩
 keep:=fun i h h' st k=>st.at fun o e=>k it (by simp) o e
 item:=by
  intro X hP hw hK hc i pins s σ H E I hf st hg
  subst hP hw hK
  obtain ⟨xs,x,hq,hx⟩:=hg
  obtain ⟨its,rv,p,hz⟩:=I.list hq
  obtain ⟨u,hu,ru⟩:=rv.get hx
  obtain ⟨f0,f1,f2,f3,f4,f5⟩:=hf it (by simp)
  refine wpAny_pyNext_list_item st p.isList (x:=u) (by simpa using hu) fun h' st' sb=>?_
  have I1:Inv X pins σ H { s with heap:=h' }:=I.turned (t':=s.toks) (fun b o hb e=>(sb.2 b hb).trans e) f0 f1 f3 f4 f5
  obtain ⟨o,e,c,d⟩:=id st'
  exact ⟨u,rfl,go_of (s:={ s with heap:=h' }) e c d (by decide) ⟨x,H,I1,ru,⟨rfl,fun ys hy=>by rw [I.list_inj hy hq];exact hx⟩,st',fun b hb=>(hf b hb).1⟩⟩
 done:=by
  intro X hP hw hK hc i pins s σ H E I hf st hg
  subst hP hw hK
  obtain ⟨xs,hq,hx⟩:=hg
  obtain ⟨its,rv,p,hz⟩:=I.list hq
  obtain ⟨f0,f1,f2,f3,f4,f5⟩:=hf it (by simp)
  have hl:=rv.length
  exact wpAny_pyNext_list_end (I.ok.hd hc) st p.isList (by simp;omega) fun h' eb=>⟨rfl,I.turned (t':=s.toks) (fun b o hb e=>eb b o hb e) f0 f1 f3 f4 f5⟩
 self:=fun _ _ _ _ _ st h=>wpAny_pyIter_listiter st h
theorem turn_range {P:Program} {w:World} {K:PySem.W.Frag} {tg:Expr} (it:Addr) (lo:Int) (n:Nat):Turn P w K tg (Itr lo n) [it] it (fun i h=>IsRangeIter h it (lo+(i:Nat) * 1) ((n:Int) - (i:Nat)) 1) where
 mem:=by simp
 obj:=fun i h st b hb=>by
  have e:b=it:=by simpa using hb
  subst e
  exact ⟨_,st,fun v z=>by
   have z':Data.fields _=Data.cell v:=z
   cases z'⟩
 keep:=fun i h h' st k=>k it (by simp) _ st
 item:=by
  intro X hP hw hK hc i pins s σ H E I hf st hg
  subst hP hw hK
  obtain ⟨f0,f1,f2,f3,f4,f5⟩:=hf it (by simp)
  have W:=Walks.range (prog:=X.prog) (w:=X.w) (I.ok.hd hc) it lo 1 n
  refine W.item i s _ _ hg st fun v h' tk hv st' kk=>?_
  obtain ⟨t,rfl⟩:=hv
  have I1:Inv X pins σ H { s with heap:=h',toks:=tk }:=I.turned (fun b o hb e=>kk b o (by simpa using hb) e) f0 f1 f3 f4 f5
  refine ⟨_,rfl,go_of (s:={ s with heap:=h',toks:=tk }) (n:="range_iterator") st' rfl rfl (by decide) ⟨.int (lo+i),H,I1,⟨t,?_⟩,⟨rfl,rfl⟩,st',fun b hb=>(hf b hb).1⟩⟩
  rw [Int.mul_one]
 done:=by
  intro X hP hw hK hc i pins s σ H E I hf st hg
  subst hP hw hK
  obtain ⟨f0,f1,f2,f3,f4,f5⟩:=hf it (by simp)
  exact wpAny_pyNext_range_end (I.ok.hd hc) st (by have:n<=i:=hg;omega) fun h' eb=>⟨rfl,I.turned (t':=s.toks) (fun b o hb e=>eb b o hb e) f0 f1 f3 f4 f5⟩
 self:=fun _ _ _ _ _ st h=>wpAny_pyIter_rangeiter st h
section
variable {X:Cx} {tg:Expr}
def iList (K:PySem.W.Frag) (tl:TE):TI:=fun σ H R=>tl σ H fun x H1=>∃a,x=.ref a/\(∃xs,SqL K H1 a xs)/\R (Itl K a) H1
theorem pi_list {l:Expr} {tl:TE} (hl:PE X l tl):PI X tg l (iList X.K tl):=by
 intro pins s σ H R I h
 refine thn (hl pins s σ H _ I h) fun v s1 ⟨x,H1,I1,r1,q1⟩=>?_
 obtain ⟨a,e,⟨xs,hq⟩,q⟩:=q1
 subst e
 cases r1
 obtain ⟨its,rv,p,hz⟩:=I1.list hq
 refine wpAny_pyIter_list p.isList ?_
 refine ⟨s1.heap.objs.size,[s1.heap.objs.size],_,_,H1,rfl,I1.kept (t':=s1.toks) fun b o e=>Heap.get?_push_of_some _ e,turn_list a _,⟨_,Heap.get?_push_size _ rfl,rfl,rfl⟩,fun b hb=>?_,q⟩
 have e:b=s1.heap.objs.size:=by simpa using hb
 subst e
 exact I1.fpOk (Nat.le_refl _) (I1.hok.fresh (Nat.le_refl _))
theorem range_it {pins:List (Addr × Obj)} {σ:St} {H:Hp} {s:Shared} {R:It->Hp->Prop} {E:Value->Shared->Prop} {lo hi:Int} {t u v:Tok} {tk:Nat} (I:Inv X pins σ H s) (h1:-(2 ^ 62)<=lo) (h2:lo<2 ^ 62) (h3:-(2 ^ 62)<=hi) (h4:hi<2 ^ 62)
  (q:R (Itr lo (hi - lo).toNat) H):wpAny (model X.prog X.w) X.A (pyIter (.ref s.heap.objs.size)) (PIE X pins σ tg R) E { s with heap:=s.heap.push { cls:=.type "range",data:=.fields #[.int lo t,.int hi u,.int 1 v] },toks:=tk }:=by
 refine wpAny_pyIter_range (IsRange.new ..) (small_one h1 h2 h3 h4) ?_
 have I1:Inv X pins σ H { s with heap:=s.heap.push { cls:=.type "range",data:=.fields #[.int lo t,.int hi u,.int 1 v] },toks:=tk }:=I.kept fun b o e=>Heap.get?_push_of_some _ e
 refine ⟨(s.heap.push { cls:=.type "range",data:=.fields #[.int lo t,.int hi u,.int 1 v] }).objs.size,[(s.heap.push { cls:=.type "range",data:=.fields #[.int lo t,.int hi u,.int 1 v] }).objs.size],_,_,H,rfl,
  I1.kept (t':=tk) fun b o e=>Heap.get?_push_of_some _ e,turn_range _ lo (hi - lo).toNat,?_,fun b hb=>?_,q⟩
 ·have e1:lo+((0:Nat):Int) * 1=lo:=by simp
  have e2:(((hi - lo).toNat:Nat):Int) - ((0:Nat):Int)=Builtin.Range.rangeSize lo hi 1:=by rw [rangeSize_one];split<;>omega
  show IsRangeIter _ _ (lo+((0:Nat):Int) * 1) ((((hi - lo).toNat:Nat):Int) - ((0:Nat):Int)) 1
  rw [e1,e2]
  exact Heap.get?_push_size _ rfl
 ·have e:b=(s.heap.push { cls:=.type "range",data:=.fields #[.int lo t,.int hi u,.int 1 v] }).objs.size:=by simpa using hb
  subst e
  exact I1.fpOk (Nat.le_refl _) (I1.hok.fresh (Nat.le_refl _))
def iRng1 (ta:TA):TI:=fun σ H R=>ta σ H fun vs H1=>∃j:Int,vs=[.int j]/\-(2 ^ 62)<=j/\j<2 ^ 62/\R (Itr 0 j.toNat) H1
def iRng2 (ta:TA):TI:=fun σ H R=>ta σ H fun vs H1=>∃i j:Int,vs=[.int i,.int j]/\(-(2 ^ 62)<=i/\i<2 ^ 62/\-(2 ^ 62)<=j/\j<2 ^ 62)/\R (Itr i (j - i).toNat) H1
theorem pi_range1 {a:Expr} {ta:TA} {p pos:Pos} (hg:Gl X "range") (hm:X.mg "range"=none) (ha:PA X [a] ta) (hs:starEach [a] X.env=[(false,eval a X.env)]:=by rfl):PI X tg (.Call (.Name "range" p) [a] [] pos) (iRng1 ta):=by
 intro pins s σ H R I h
 refine Call_ (ld_blt I hg hm boot_range (PyProof.Rows.callWith_type1 (thn (ha pos pins s σ H _ I h) fun us s1 ⟨vs,H1,I1,r1,q1⟩=>?_) hs rfl))
 obtain ⟨j,e,q1,q2,q⟩:=q1
 subst e
 cases r1 with
 | cons r rr=>
  cases rr
  obtain ⟨t,rfl⟩:=r
  exact call_range_1 (range_it I1 (by omega) (by omega) q1 q2 (by simpa using q))
theorem pi_range2 {a b:Expr} {ta:TA} {p pos:Pos} (hg:Gl X "range") (hm:X.mg "range"=none) (ha:PA X [a,b] ta) (hs:starEach [a,b] X.env=[(false,eval a X.env),(false,eval b X.env)]:=by rfl) (hs2:starEach [b] X.env=[(false,eval b X.env)]:=by rfl) :
  PI X tg (.Call (.Name "range" p) [a,b] [] pos) (iRng2 ta):=by
 intro pins s σ H R I h
 refine Call_ (ld_blt I hg hm boot_range (PyProof.Rows.callWith_type1 (thn (ha pos pins s σ H _ I h) fun us s1 ⟨vs,H1,I1,r1,q1⟩=>?_) (by rw [hs,hs2]) (by rw [hs2];rfl)))
 obtain ⟨i,j,e,⟨q1,q2,q3,q4⟩,q⟩:=q1
 subst e
 cases r1 with
 | cons r rr=>
  cases rr with
  | cons r' rr=>
   cases rr
   obtain ⟨t,rfl⟩:=r
   obtain ⟨t',rfl⟩:=r'
   exact call_range_2 (range_it I1 q1 q2 q3 q4 q)
def tFor (wi:TI) (g:TG) (tb:TS):TS:=fun D σ H=>wi σ H fun J H1=>∃W:Nat->Nat->St->Hp->Prop,(∃m,W 0 m σ H1)/\∀i m σ H,W i m σ H->
 (J.stop i H/\D.nx σ H)\/(J.go i H/\∃N:St->Hp->Prop,(∀σ' H',N σ' H'->∃m',m'<m/\W (i+1) m' σ' H')/\∀x H',J.yld i H x H'->g x σ H' fun σ2 H2=>tb { D with nx:=N,ct:=N,bk:=D.nx } σ2 H2)
def pinsAt (fp:List Addr) (h:Heap):List (Addr × Obj):=fp.filterMap fun b=>(h.get? b).map fun o=>(b,o)
theorem mem_pinsAt {fp:List Addr} {h:Heap} {b:Addr} {o:Obj} (hb:b∈fp) (e:h.get? b=some o):(b,o)∈pinsAt fp h:=List.mem_filterMap.mpr ⟨b,hb,by rw [e];rfl⟩
theorem of_pinsAt {fp:List Addr} {h:Heap} {p:Addr × Obj} (hp:p∈pinsAt fp h):p.1∈fp/\h.get? p.1=some p.2:=by
 obtain ⟨b,hb,e⟩:=List.mem_filterMap.mp hp
 cases q:h.get? b with
 | none=>rw [q] at e;cases e
 | some o=>
  rw [q] at e
  have e':(b,o)=p:=Option.some.inj e
  subst e'
  exact ⟨hb,q⟩
theorem Inv.pinned {pins:List (Addr × Obj)} {σ:St} {H:Hp} {s:Shared} {fp:List Addr} (I:Inv X pins σ H s) (hf:∀b∈fp,FpOk X pins H b) (ho:∀b∈fp,∃o,s.heap.get? b=some o/\∀v,o.data≠.cell v):Inv X (pins++pinsAt fp s.heap) σ H s:=
 I.pins_of fun p hp=>(List.mem_append.mp hp).elim (fun z=>I.pin p (List.mem_append_right _ z)) fun z=>by
  obtain ⟨hb,e⟩:=of_pinsAt z
  obtain ⟨f0,f1,f2,_⟩:=hf p.1 hb
  obtain ⟨o,e',d⟩:=ho p.1 hb
  rw [e] at e';cases e'
  exact ⟨e,f0,f1,f2,d⟩
theorem Inv.unpinned {pins pl:List (Addr × Obj)} {σ:St} {H:Hp} {s:Shared} (I:Inv X (pins++pl) σ H s):Inv X pins σ H s:=I.pins_of fun p hp=>I.pin p (List.mem_append_right _ (List.mem_append_left _ hp))
theorem ps_for {iter:Expr} {body:List Stmt} {wi:TI} {g:TG} {tb:TS} {pos:Pos} (hp:PassesOwn (model X.prog X.w) X.A X.env X.xe) (hc:X.calm=true) (hi:PI X tg iter wi) (hg:PG X tg g) (hb:PSs X body tb)
  (hs:∀x,foldedSetIterable iter X.env x=pure x:=by intro _;rfl):PS X (.For tg iter body [] pos) (tFor wi g tb):=by
 intro pins s σ H D I h
 refine wpAny_For (thn (hi pins s σ H _ I h) fun v s1 h1=>thn h1 fun itv s2 h2=>?_) hs
 obtain ⟨it,fp,tn,J,H2,e,I2,T,st2,f2,W,⟨m0,w0⟩,turn⟩:=h2
 subst e
 -- what stays true of the iterator's objects through the loop
 have stat:∀{H':Hp},(∀b∈fp,H' b=none)->∀b∈fp,FpOk X pins H' b:=fun hn b hb=>⟨hn b hb,(f2 b hb).2⟩
 refine codeAny_forLoop_any (fun n s'=>∃i σ' H',Inv X pins σ' H' s'/\tn i s'.heap/\(∀b∈fp,H' b=none)/\W i n σ' H') ?_ m0 ⟨0,σ,H2,I2,st2,fun b hb=>(f2 b hb).1,w0⟩
 rintro n s3 ⟨i,σ3,H3,I3,st3,fr3,w3⟩
 rcases turn i n σ3 H3 w3 with ⟨stop,qn⟩|⟨go,N,hN,step⟩
 ·refine wpAny_passesOwn hp (thn (T.done X rfl rfl rfl hc i pins s3 σ3 H3 X.xe I3 (stat fr3) st3 stop) fun r s4 ⟨hr,I4⟩=>?_)
  subst hr
  exact wpAny_execs_nil ⟨σ3,H3,I4,qn⟩
 ·refine wpAny_passesOwn hp (thn (T.item X rfl rfl rfl hc i pins s3 σ3 H3 X.xe I3 (stat fr3) st3 go) fun r s4 ⟨u,hr,h4⟩=>?_)
  subst hr
  refine wpAny_passesOwn hp (thn h4 fun _ s5 ⟨x,H5,I5,r5,y5,st5,fr5⟩=>?_)
  have I5':=I5.pinned (stat fr5) (T.obj _ _ st5)
  refine wpAny_passesOwn hp (thn (hg _ s5 σ3 H5 x u _ I5' r5 (step x H5 y5)) fun _ s6 ⟨σ6,H6,I6,q6⟩=>?_)
  refine wpAny_passesOwn hp (thn (hb _ s6 σ6 H6 _ I6 q6) fun f s7 q7=>?_)
  have again:∀{σ7:St} {H7:Hp},Inv X (pins++pinsAt fp s5.heap) σ7 H7 s7->N σ7 H7->∃m,m<n/\∃i σ' H',Inv X pins σ' H' s7/\tn i s7.heap/\(∀b∈fp,H' b=none)/\W i m σ' H':=fun {σ7 H7} I7 n7=>by
   obtain ⟨m',hm,w7⟩:=hN σ7 H7 n7
   refine ⟨m',hm,i+1,σ7,H7,I7.unpinned,T.keep _ _ _ st5 fun b hb o e=>(I7.pin (b,o) (List.mem_append_right _ (List.mem_append_right _ (mem_pinsAt hb e)))).1,fun b hb=>?_,w7⟩
   obtain ⟨o,e,d⟩:=T.obj _ _ st5 b hb
   exact (I7.pin (b,o) (List.mem_append_right _ (List.mem_append_right _ (mem_pinsAt hb e)))).2.1
  cases f with
  | next=>obtain ⟨σ7,H7,I7,n7⟩:=q7;exact again I7 n7
  | cont=>obtain ⟨σ7,H7,I7,n7⟩:=q7;exact again I7 n7
  | brk=>obtain ⟨σ7,H7,I7,q7⟩:=q7;exact ⟨σ7,H7,I7.unpinned,q7⟩
  | ret v=>obtain ⟨x7,σ7,H7,I7,r7,q7⟩:=q7;exact ⟨x7,σ7,H7,I7.unpinned,r7,q7⟩
end
abbrev R2:=V->V->Hp->VK->Prop
def OpR (X:Cx) (f:Value->Value->Sem Value) (r:R2):Prop:=
 ∀(pins:List (Addr × Obj)) (s:Shared) (σ:St) (H:Hp) (x y:V) (v u:Value) (Q:VK),Inv X pins σ H s->RelV x v->RelV y u->r x y H Q->
  wpAny (model X.prog X.w) X.A (f v u) (EP X pins σ Q) X.xe s
def UnR (X:Cx) (f:Value->Sem Value) (r:V->Hp->VK->Prop):Prop:=
 ∀(pins:List (Addr × Obj)) (s:Shared) (σ:St) (H:Hp) (x:V) (v:Value) (Q:VK),Inv X pins σ H s->RelV x v->r x H Q->
  wpAny (model X.prog X.w) X.A (f v) (EP X pins σ Q) X.xe s
def CallR (X:Cx) (f:Value) (r:List V->Hp->VK->Prop):Prop:=
 ∀(pins:List (Addr × Obj)) (s:Shared) (σ:St) (H:Hp) (xs:List V) (us:List Value) (Q:VK),Inv X pins σ H s->Vals xs us->r xs H Q->
  wpAny (model X.prog X.w) X.A (call f us) (EP X pins σ Q) X.xe s
def tOp (r:R2) (ta tb:TE):TE:=fun σ H Q=>ta σ H fun x H1=>tb σ H1 fun y H2=>r x y H2 Q
def tUn (r:V->Hp->VK->Prop) (ta:TE):TE:=fun σ H Q=>ta σ H fun x H1=>r x H1 Q
def rI (C:Int->Int->Prop) (g:Int->Int->V):R2:=fun x y H Q=>∃i j,x=.int i/\y=.int j/\C i j/\Q (g i j) H
def rI0 (g:Int->Int->V):R2:=fun x y H Q=>∃i j,x=.int i/\y=.int j/\Q (g i j) H
def rU (g:Int->V):V->Hp->VK->Prop:=fun x H Q=>∃i,x=.int i/\Q (g i) H
section
variable {X:Cx} {a b c:Expr} {ta tb tc:TE} {pos:Pos}
theorem binT (ha:PE X a ta) (hb:PE X b tb) {pins:List (Addr × Obj)} {s:Shared} {σ:St} {H:Hp} {R:V->V->Hp->Prop} (I:Inv X pins σ H s)
  (h:ta σ H fun x H1=>tb σ H1 fun y H2=>R x y H2) {Q:Value->Shared->Prop} {f:Value->Value->Sem Value}
  (hf:∀v u s2 x y H2,Inv X pins σ H2 s2->RelV x v->RelV y u->R x y H2->wpAny (model X.prog X.w) X.A (f v u) Q X.xe s2) :
  wpAny (model X.prog X.w) X.A (eval a X.env) (fun v s₁=>wpAny (model X.prog X.w) X.A (eval b X.env) (fun u s₂=>wpAny (model X.prog X.w) X.A (f v u) Q X.xe s₂) X.xe s₁) X.xe s:=by
 refine thn (ha pins s σ H _ I h) fun v s1 ⟨x,H1,I1,r1,q1⟩=>?_
 refine thn (hb pins s1 σ H1 _ I1 q1) fun u s2 ⟨y,H2,I2,r2,q2⟩=>?_
 exact hf v u s2 x y H2 I2 r1 r2 q2
theorem pe_op {op:Operator} {r:R2} (ho:OpR X (binaryOp op) r) (ha:PE X a ta) (hb:PE X b tb):PE X (.BinOp a op b pos) (tOp r ta tb):=by
 intro pins s σ H Q I h
 exact wpAny_BinOp (binT ha hb I h fun v u s2 x y H2 I2 rx ry q=>ho pins s2 σ H2 x y v u Q I2 rx ry q)
theorem pe_un {op:UnaryOp} {r:V->Hp->VK->Prop} (ho:UnR X (unaryOp op) r) (ha:PE X a ta):PE X (.UnaryOp op a pos) (tUn r ta):=by
 intro pins s σ H Q I h
 exact UnaryOp_ (thn (ha pins s σ H _ I h) fun v s1 ⟨x,H1,I1,r1,q1⟩=>ho pins s1 σ H1 x v Q I1 r1 q1)
theorem opI {f:Value->Value->Sem Value} {C:Int->Int->Prop} {g:Int->Int->Int}
  (rule:∀(i j:Int) (t u:Tok) (s:Shared) (Q:Value->Shared->Prop) (E:Value->Shared->Prop),C i j->Q (.int (g i j) s.toks) { s with toks:=s.toks+1 }->wpAny (model X.prog X.w) X.A (f (.int i t) (.int j u)) Q E s) :
  OpR X f (rI C fun i j=>.int (g i j)):=by
 intro pins s σ H x y v u Q I rx ry h
 obtain ⟨i,j,rfl,rfl,hc,q⟩:=h
 obtain ⟨t,rfl⟩:=rx
 obtain ⟨t',rfl⟩:=ry
 exact rule i j t t' s _ _ hc ⟨.int (g i j),H,I.tok _,⟨_,rfl⟩,q⟩
theorem opI0 {f:Value->Value->Sem Value} {g:Int->Int->Int}
  (rule:∀(i j:Int) (t u:Tok) (s:Shared) (Q:Value->Shared->Prop) (E:Value->Shared->Prop),Q (.int (g i j) s.toks) { s with toks:=s.toks+1 }->wpAny (model X.prog X.w) X.A (f (.int i t) (.int j u)) Q E s) :
  OpR X f (rI0 fun i j=>.int (g i j)):=by
 intro pins s σ H x y v u Q I rx ry h
 obtain ⟨i,j,rfl,rfl,q⟩:=h
 obtain ⟨t,rfl⟩:=rx
 obtain ⟨t',rfl⟩:=ry
 exact rule i j t t' s _ _ ⟨.int (g i j),H,I.tok _,⟨_,rfl⟩,q⟩
theorem opB0 {f:Value->Value->Sem Value} {g:Int->Int->Bool}
  (rule:∀(i j:Int) (t u:Tok) (s:Shared) (Q:Value->Shared->Prop) (E:Value->Shared->Prop),Q (.bool (g i j)) s->wpAny (model X.prog X.w) X.A (f (.int i t) (.int j u)) Q E s) :
  OpR X f (rI0 fun i j=>.bl (g i j)):=by
 intro pins s σ H x y v u Q I rx ry h
 obtain ⟨i,j,rfl,rfl,q⟩:=h
 obtain ⟨t,rfl⟩:=rx
 obtain ⟨t',rfl⟩:=ry
 exact rule i j t t' s _ _ ⟨.bl (g i j),H,I,rfl,q⟩
def CDiv (i j:Int):Prop:=0<j/\j<1073741824
def CPow (i j:Int):Prop:=0<=j/\j<=1000000/\i.natAbs<2 ^ 64
def CMul (i j:Int):Prop:=(-(2 ^ 64)<i/\i<2 ^ 64)\/(-(2 ^ 64)<j/\j<2 ^ 64)
theorem CMul.ok {i j:Int} (h:CMul i j):IntMulOk i j:=by
 rcases h with ⟨h1,h2⟩|⟨h1,h2⟩
 ·exact .of_left (intBits_le_64 h1 h2)
 ·exact .of_right (intBits_le_64 h1 h2)
theorem op_add:OpR X (binaryOp .Add) (rI0 fun i j=>.int (i+j)):=opI0 fun _ _ _ _ _ _ _ q=>add_int q
theorem op_sub:OpR X (binaryOp .Sub) (rI0 fun i j=>.int (i - j)):=opI0 fun _ _ _ _ _ _ _ q=>sub_int q
theorem op_mul:OpR X (binaryOp .Mult) (rI CMul fun i j=>.int (i * j)):=opI fun _ _ _ _ _ _ _ hc q=>mul_int q hc.ok
theorem op_fdiv:OpR X (binaryOp .FloorDiv) (rI CDiv fun i j=>.int (i / j)):=opI fun i j _ _ _ _ _ hc q=>by
 have h1:(0:Int)<j:=hc.1
 have h2:j<1073741824:=hc.2
 exact floordiv_int (by omega) (by rw [Int.fdiv_eq_ediv_of_nonneg i (by omega)];exact q) (.inl (PyProof.noPylong_small (by omega)))
theorem op_mod:OpR X (binaryOp .Mod) (rI (fun _ j=>0<j) fun i j=>.int (i % j)):=opI fun i j _ _ _ _ _ hc q=>by
 have h1:(0:Int)<j:=hc
 exact mod_int' (by omega) (by rw [Int.fmod_eq_emod_of_nonneg i (by omega)];exact q)
theorem op_pow:OpR X (binaryOp .Pow) (rI CPow fun i j=>.int (i ^ j.toNat)):=opI fun _ _ _ _ _ _ _ hc q=>pow_int_small hc.1 hc.2.1 hc.2.2 q
theorem op_and:OpR X (binaryOp .BitAnd) (rI0 fun i j=>.int (Builtin.bitAnd i j)):=opI0 fun _ _ _ _ _ _ _ q=>and_int q
theorem iop_add:OpR X (inplaceOp .Add) (rI0 fun i j=>.int (i+j)):=opI0 fun _ _ _ _ _ _ _ q=>iadd_int q
theorem iop_sub:OpR X (inplaceOp .Sub) (rI0 fun i j=>.int (i - j)):=opI0 fun _ _ _ _ _ _ _ q=>isub_int q
theorem iop_mul:OpR X (inplaceOp .Mult) (rI CMul fun i j=>.int (i * j)):=opI fun _ _ _ _ _ _ _ hc q=>imul_int q hc.ok
theorem unI {f:Value->Sem Value} {g:Int->Int}
  (rule:∀(i:Int) (t:Tok) (s:Shared) (Q:Value->Shared->Prop) (E:Value->Shared->Prop),Q (.int (g i) s.toks) { s with toks:=s.toks+1 }->wpAny (model X.prog X.w) X.A (f (.int i t)) Q E s) :
  UnR X f (rU fun i=>.int (g i)):=by
 intro pins s σ H x v Q I rx h
 obtain ⟨i,rfl,q⟩:=h
 obtain ⟨t,rfl⟩:=rx
 exact rule i t s _ _ ⟨.int (g i),H,I.tok _,⟨_,rfl⟩,q⟩
theorem un_neg:UnR X (unaryOp .USub) (rU fun i=>.int (-i)):=unI fun _ _ _ _ _ q=>neg_int q
end
def scal:V->V->Bool
 | .non,.non=>true|.non,.int _=>true|.int _,.non=>true|.non,.bl _=>true|.bl _,.non=>true|.non,.str _=>true|.str _,.non=>true
 | .int _,.int _=>true|.bl _,.bl _=>true|.str _,.str _=>true|.byt _,.byt _=>true
 | .int _,.str _=>true|.str _,.int _=>true|.bl _,.str _=>true|.str _,.bl _=>true
 | _,_=>false
def rEq:R2:=fun x y H Q=>scal x y=true/\Q (.bl (decide (x=y))) H
def rNe:R2:=fun x y H Q=>scal x y=true/\Q (.bl (!decide (x=y))) H
theorem dec_int {i j:Int}:decide (V.int i=V.int j)=(i == j):=by
 rw [Bool.eq_iff_iff]
 simp
theorem dec_bl {i j:Bool}:decide (V.bl i=V.bl j)=(i == j):=by
 rw [Bool.eq_iff_iff]
 simp
theorem dec_str {i j:Str}:decide (V.str i=V.str j)=(i == j):=by
 rw [Bool.eq_iff_iff]
 simp
theorem dec_byt {i j:Array UInt8}:decide (V.byt i=V.byt j)=(i.toList == j.toList):=by
 rw [Bool.eq_iff_iff]
 cases i
 cases j
 simp
section
variable {X:Cx} {a b c:Expr} {ta tb tc:TE} {pos:Pos}
theorem fin_bl {pins:List (Addr × Obj)} {σ:St} {H:Hp} {s:Shared} {Q:VK} {k k':Bool} (I:Inv X pins σ H s) (q:Q (.bl k) H) (e:k=k'):EP X pins σ Q (.bool k') s:=by
 subst e
 exact ⟨.bl k,H,I,rfl,q⟩
theorem op_eq:OpR X (compareOp .Eq) rEq:=by
 intro pins s σ H x y v u Q I rx ry h
 obtain ⟨hs,q⟩:=h
 cases x with
 | non=>
  cases rx
  cases y with
  | non=>cases ry;exact PySem.EqNone.eq_none_none (fin_bl I q (by simp))
  | bl j=>cases ry;exact PySem.EqNone.eq_none_bool (fin_bl I q (by simp))
  | int j=>obtain ⟨t',rfl⟩:=ry;exact PySem.EqNone.eq_none_int (fin_bl I q (by simp))
  | str j=>obtain ⟨t',rfl⟩:=ry;exact PySem.EqNone.eq_none_str (fin_bl I q (by simp))
  | _=>exact absurd (show false=true from hs) Bool.false_ne_true
 | bl i=>
  cases rx
  cases y with
  | non=>cases ry;exact PySem.EqNone.eq_bool_none (fin_bl I q (by simp))
  | bl j=>cases ry;exact eq_bool (fin_bl I q dec_bl)
  | str j=>obtain ⟨t',rfl⟩:=ry;exact PySem.EqMixed.eq_bool_str (fin_bl I q (by simp))
  | _=>exact absurd (show false=true from hs) Bool.false_ne_true
 | int i=>
  obtain ⟨t,rfl⟩:=rx
  cases y with
  | non=>cases ry;exact PySem.EqNone.eq_int_none (fin_bl I q (by simp))
  | int j=>obtain ⟨t',rfl⟩:=ry;exact eq_int (fin_bl I q dec_int)
  | str j=>obtain ⟨t',rfl⟩:=ry;exact PySem.EqMixed.eq_int_str (fin_bl I q (by simp))
  | _=>exact absurd (show false=true from hs) Bool.false_ne_true
 | str i=>
  obtain ⟨t,rfl⟩:=rx
  cases y with
  | non=>cases ry;exact PySem.EqNone.eq_str_none (fin_bl I q (by simp))
  | bl j=>cases ry;exact PySem.EqMixed.eq_str_bool (fin_bl I q (by simp))
  | int j=>obtain ⟨t',rfl⟩:=ry;exact PySem.EqMixed.eq_str_int (fin_bl I q (by simp))
  | str j=>obtain ⟨t',rfl⟩:=ry;exact eq_str (fin_bl I q dec_str)
  | _=>exact absurd (show false=true from hs) Bool.false_ne_true
 | byt i=>
  obtain ⟨t,rfl⟩:=rx
  cases y with
  | byt j=>obtain ⟨t',rfl⟩:=ry;exact PySem.W.eq_bytes (fin_bl I q dec_byt)
  | _=>exact absurd (show false=true from hs) Bool.false_ne_true
 | _=>cases y<;>exact absurd (show false=true from hs) Bool.false_ne_true
theorem op_ne:OpR X (compareOp .NotEq) rNe:=by
 intro pins s σ H x y v u Q I rx ry h
 obtain ⟨hs,q⟩:=h
 cases x with
 | non=>
  cases rx
  cases y with
  | non=>cases ry;exact PySem.EqNone.ne_none_none (fin_bl I q (by simp))
  | bl j=>cases ry;exact PySem.EqNone.ne_none_bool (fin_bl I q (by simp))
  | int j=>obtain ⟨t',rfl⟩:=ry;exact PySem.EqNone.ne_none_int (fin_bl I q (by simp))
  | str j=>obtain ⟨t',rfl⟩:=ry;exact PySem.EqNone.ne_none_str (fin_bl I q (by simp))
  | _=>exact absurd (show false=true from hs) Bool.false_ne_true
 | bl i=>
  cases rx
  cases y with
  | non=>cases ry;exact PySem.EqNone.ne_bool_none (fin_bl I q (by simp))
  | bl j=>cases ry;exact ne_bool (fin_bl I q (congrArg not dec_bl))
  | str j=>obtain ⟨t',rfl⟩:=ry;exact PySem.EqMixed.ne_bool_str (fin_bl I q (by simp))
  | _=>exact absurd (show false=true from hs) Bool.false_ne_true
 | int i=>
  obtain ⟨t,rfl⟩:=rx
  cases y with
  | non=>cases ry;exact PySem.EqNone.ne_int_none (fin_bl I q (by simp))
  | int j=>obtain ⟨t',rfl⟩:=ry;exact ne_int (fin_bl I q (congrArg not dec_int))
  | str j=>obtain ⟨t',rfl⟩:=ry;exact PySem.EqMixed.ne_int_str (fin_bl I q (by simp))
  | _=>exact absurd (show false=true from hs) Bool.false_ne_true
 | str i=>
  obtain ⟨t,rfl⟩:=rx
  cases y with
  | non=>cases ry;exact PySem.EqNone.ne_str_none (fin_bl I q (by simp))
  | bl j=>cases ry;exact PySem.EqMixed.ne_str_bool (fin_bl I q (by simp))
  | int j=>obtain ⟨t',rfl⟩:=ry;exact PySem.EqMixed.ne_str_int (fin_bl I q (by simp))
  | str j=>obtain ⟨t',rfl⟩:=ry;exact ne_str (fin_bl I q (congrArg not dec_str))
  | _=>exact absurd (show false=true from hs) Bool.false_ne_true
 | byt i=>
  obtain ⟨t,rfl⟩:=rx
  cases y with
  | byt j=>obtain ⟨t',rfl⟩:=ry;exact PySem.W.ne_bytes (fin_bl I q (congrArg not dec_byt))
  | _=>exact absurd (show false=true from hs) Bool.false_ne_true
 | _=>cases y<;>exact absurd (show false=true from hs) Bool.false_ne_true
theorem op_lt:OpR X (compareOp .Lt) (rI0 fun i j=>.bl (decide (i<j))):=opB0 fun _ _ _ _ _ _ _ q=>lt_int q
theorem op_le:OpR X (compareOp .LtE) (rI0 fun i j=>.bl (decide (i<=j))):=opB0 fun _ _ _ _ _ _ _ q=>le_int q
theorem op_gt:OpR X (compareOp .Gt) (rI0 fun i j=>.bl (decide (j<i))):=opB0 fun _ _ _ _ _ _ _ q=>gt_int q
theorem op_ge:OpR X (compareOp .GtE) (rI0 fun i j=>.bl (decide (j<=i))):=opB0 fun _ _ _ _ _ _ _ q=>ge_int q
theorem OpR.or {f:Value->Value->Sem Value} {r r':R2} (h:OpR X f r) (h':OpR X f r'):OpR X f (fun x y H Q=>r x y H Q\/r' x y H Q):=by
 intro pins s σ H x y v u Q I rx ry q
 rcases q with q|q
 ·exact h pins s σ H x y v u Q I rx ry q
 ·exact h' pins s σ H x y v u Q I rx ry q
theorem nomark (b:Expr) {op:CmpOp} (h:op≠.In:=by decide) (h2:op≠.NotIn:=by decide):behindInMarks op b=false:=by
 have e1:(op == CmpOp.In)=false:=by cases op<;>first|rfl|exact absurd rfl h
 have e2:(op == CmpOp.NotIn)=false:=by cases op<;>first|rfl|exact absurd rfl h2
 cases b<;>simp [behindInMarks,e1,e2]
theorem pe_cmpR {op:CmpOp} {r:R2} (ho:OpR X (compareOp op) r) (ha:PE X a ta) (hb:PE X b tb) (hm:behindInMarks op b=false):PE X (.Compare a [op] [b] pos) (tOp r ta tb):=by
 intro pins s σ H Q I h
 exact wpAny_Compare1 (binT ha hb I h fun v u s2 x y H2 I2 rx ry q=>ho pins s2 σ H2 x y v u Q I2 rx ry q) hm
def tTest (t:TE):TT:=fun σ H Q=>t σ H fun x H'=>∃k,x=.bl k/\Q k H'
theorem pt_cmpR {op:CmpOp} {r:R2} (ho:OpR X (compareOp op) r) (ha:PE X a ta) (hb:PE X b tb) (hm:behindInMarks op b=false):PT X (.Compare a [op] [b] pos) (tTest (tOp r ta tb)):=by
 intro pins s σ H Q I h
 refine wpAny_isTrue_Compare1 (thn (ha pins s σ H _ I h) fun v s1 ⟨x,H1,I1,r1,q1⟩=>thn (hb pins s1 σ H1 _ I1 q1) fun u s2 ⟨y,H2,I2,r2,q2⟩=>
  thn (ho pins s2 σ H2 x y v u _ I2 r1 r2 q2) fun c s3 ⟨z,H3,I3,r3,k,e,q3⟩=>?_) hm
 subst e
 cases r3
 exact wpAny_truthy_bool ⟨H3,I3,q3⟩
def tChain (r r':R2) (ta tb tc:TE):TE:=fun σ H Q=>ta σ H fun x H1=>tb σ H1 fun y H2=>r x y H2 fun z H3=>∃k,z=.bl k /\
 (if k=true then tc σ H3 fun w' H4=>r' y w' H4 Q else Q (.bl false) H3)
theorem pt_chain {op op':CmpOp} {r r':R2} (ho:OpR X (compareOp op) r) (ho':OpR X (compareOp op') r') (ha:PE X a ta) (hb:PE X b tb) (hc:PE X c tc)
  (hm:lastMarks [op,op'] [b,c]=false:=by with_unfolding_all rfl):PT X (.Compare a [op,op'] [b,c] pos) (tTest (tChain r r' ta tb tc)):=by
 intro pins s σ H Q I h
 refine isTrue_chain (thn (ha pins s σ H _ I h) fun v s1 ⟨x,H1,I1,r1,q1⟩=>test_link (thn (hb pins s1 σ H1 _ I1 q1) fun u s2 ⟨y,H2,I2,r2,q2⟩=>
  thn (ho pins s2 σ H2 x y v u _ I2 r1 r2 q2) fun d s3 ⟨z,H3,I3,r3,k,e,q3⟩=>?_)) hm
 subst e
 cases r3
 refine wpAny_truthy_bool ?_
 cases k with
 | false=>
  obtain ⟨k',e',q'⟩:=q3
  cases e'
  exact ite_ff ⟨H3,I3,q'⟩
 | true=>
  refine ite_tt (test_last (thn (hc pins s3 σ H3 _ I3 q3) fun w' s4 ⟨z',H4,I4,r4,q4⟩=>thn (ho' pins s4 σ H4 y z' u w' _ I4 r2 r4 q4) fun d' s5 ⟨z2,H5,I5,r5,k2,e2,q5⟩=>?_))
  subst e2
  cases r5
  exact wpAny_truthy_bool ⟨H5,I5,q5⟩
theorem line63:(sizeLine:Nat)<2 ^ 63:=by rw [sizeLine_eq];decide
theorem vals1 {x:V} {us:List Value} (r:Vals [x] us):∃u,us=[u]/\RelV x u:=by
 cases r with
 | cons r1 r2=>cases r2;exact ⟨_,rfl,r1⟩
theorem vals2 {x y:V} {us:List Value} (r:Vals [x,y] us):∃u w',us=[u,w']/\RelV x u/\RelV y w':=by
 cases r with
 | cons r1 r2=>
  cases r2 with
  | cons r3 r4=>cases r4;exact ⟨_,_,rfl,r1,r3⟩
theorem call_min2 (hc:X.calm=true):CallR X (.builtin "min") (fun xs H Q=>∃i j,xs=[.int i,.int j]/\Q (.int (if j<i then j else i)) H):=by
 intro pins s σ H xs us Q I r h
 obtain ⟨i,j,rfl,q⟩:=h
 obtain ⟨u,w',rfl,⟨t,rfl⟩,⟨t',rfl⟩⟩:=vals2 r
 refine min_two_ints (I.ok.hd hc) fun h' tk k=>⟨_,H,I.kept k,?_,q⟩
 by_cases hj:j<i
 ·rw [if_pos hj,if_pos hj];exact ⟨_,rfl⟩
 ·rw [if_neg hj,if_neg hj];exact ⟨_,rfl⟩
theorem call_int1:CallR X (.type "int") (fun xs H Q=>(∃i,xs=[.int i]/\Q (.int i) H)\/∃k,xs=[.bl k]/\Q (.int (if k then 1 else 0)) H):=by
 intro pins s σ H xs us Q I r h
 rcases h with ⟨i,rfl,q⟩|⟨k,rfl,q⟩
 ·obtain ⟨u,rfl,t,rfl⟩:=vals1 r
  exact call_int_int ⟨.int i,H,I,⟨_,rfl⟩,q⟩
 ·obtain ⟨u,rfl,r1⟩:=vals1 r
  cases r1
  exact call_int_bool ⟨.int (if k then 1 else 0),H,I.tok _,⟨_,rfl⟩,q⟩
theorem call_divmod:CallR X (.builtin "divmod") (fun xs H Q=>∃i j,xs=[.int i,.int j]/\CDiv i j/\∀p,H p=none->Q (.ref p) (upd H p (.tup [.int (i / j),.int (i % j)]))):=by
 intro pins s σ H xs us Q I r h
 obtain ⟨i,j,rfl,⟨h1,h2⟩,q⟩:=h
 obtain ⟨u,w',rfl,⟨t,rfl⟩,⟨t',rfl⟩⟩:=vals2 r
 refine divmod_int (by omega) ?_ (.inl (PyProof.noPylong_small (by omega)))
 rw [Int.fdiv_eq_ediv_of_nonneg i (by omega),Int.fmod_eq_emod_of_nonneg i (by omega)]
 have hn:H s.heap.objs.size=none:=I.hok.fresh (Nat.le_refl _)
 refine ⟨.ref s.heap.objs.size,_,?_,rfl,q _ hn⟩
 refine I.laid (fun b o e=>Heap.get?_push_of_some _ e) (Nat.le_refl _) ⟨by simp only [List.length_cons,List.length_nil];rw [sizeLine_eq];decide,[.int (i / j) s.toks,.int (i % j) (s.toks+1)],.cons ⟨_,rfl⟩ (.cons ⟨_,rfl⟩ .nil),?_⟩
 exact ⟨_,Heap.get?_push_size s.heap rfl,rfl,0,rfl⟩
end
structure ObjM (h:Heap) (x dx C:Addr) (mA:Str->Option Value):Prop where
 obj:h.get? x=some (PySem.W.instObj C dx)
 ns:h.Ns1 dx mA
 ne:dx≠x
theorem lookIn_ns {h:Heap} {dx:Addr} {mA:Str->Option Value} (n:h.Ns1 dx mA):∃od,h.get? dx=some od/\∀name,PySem.W.lookIn name od=some (mA name):=by
 obtain ⟨o,es,ep,ho,hd,hk,_,hm⟩:=n
 refine ⟨o,ho,fun name=>?_⟩
 have e:=hm name
 unfold nsFind findBy at e
 rw [<-Array.find?_toList] at e
 unfold PySem.W.lookIn
 rw [hd]
 dsimp only
 split
 ·rename_i y q
  rw [q] at e
  exact congrArg some e
 ·rename_i q
  rw [q] at e
  have a:es.toList.any (·.refKey)=false:=by
   rw [List.any_eq_false]
   intro y hy
   obtain ⟨z,t,hkey⟩:=hk y (Array.mem_toList_iff.mp hy)
   simp [DictEntry.refKey,hkey]
  have a':¬es.toList.any (·.refKey)=true:=by rw [a];exact Bool.false_ne_true
  rw [if_neg a']
  exact congrArg some e
theorem ObjM.look {h:Heap} {x dx C:Addr} {mA:Str->Option Value} (I:ObjM h x dx C mA):∃od,PySem.W.InstAt h x (PySem.W.instObj C dx) C (some od)/\∀name,PySem.W.lookIn name od=some (mA name):=
 let ⟨od,ho,hl⟩:=lookIn_ns I.ns
 ⟨od,⟨I.obj,rfl,rfl,ho⟩,hl⟩
section
variable {prog:Program} {w:World} {A:Around} {E:Value->Shared->Prop} {s:Shared} {K:PySem.W.Frag} {x dx C f:Addr} {mA:Str->Option Value} {name:Str} {v:Value}
end
section
variable {P:Program} {w:World} {H H':Hp} {h h':Heap} {a C dx:Addr} {fs fs':List (Str × V)}
theorem ins_get (hok:HOk P w H h) (e:H a=some (.ins C dx fs)):∃mA,ObjM h a dx C mA/\(∀f,RelO (fs.lookup f) (mA f))/\PySem.Within mA (fs.map (·.1))/\fs.length<=1000/\H dx=some (.own a):=by
 obtain ⟨d,z,ne,ob,mA,n,r,q⟩:=(show ObjOk P w H h a (.ins C dx fs) from hok a _ e)
 exact ⟨mA,⟨ob,n,ne⟩,r,q,z,d⟩
end
structure Cls (K:PySem.W.Frag) (C:Addr):Prop where
 pg:PySem.W.plainGet K C Str.empty=true
 hd:PySem.W.hasDictIn K C=true
 po:PySem.W.plainOver K C=true
 sa:PySem.W.findIn K (.ref C) "__setattr__"=some (some (.builtin "object.__setattr__"))
theorem Cls.get {K:PySem.W.Frag} {C:Addr} (c:Cls K C) (f:Str):PySem.W.plainGet K C f=true:=c.pg
section
variable {X:Cx} {pins:List (Addr × Obj)} {σ:St} {H:Hp} {s:Shared} {a C dx:Addr} {fs:List (Str × V)} {f:Str} {v:V} {A:Around} {E:Value->Shared->Prop}
end
section
variable {X:Cx} {pins:List (Addr × Obj)} {σ:St} {H:Hp} {s:Shared} {A:Around} {E:Value->Shared->Prop} {Q:Value->Shared->Prop} {c:Value} {b:Bool}
inductive TyOf (K:PySem.W.Frag) (H:Hp):V->Value->Prop where
 | non:TyOf K H .non (.type "NoneType")
 | bl (x:Bool):TyOf K H (.bl x) (.type "bool")
 | int (i:Int):TyOf K H (.int i) (.type "int")
 | str (x:Str):TyOf K H (.str x) (.type "str")
 | flt (x:UInt64):TyOf K H (.flt x) (.type "float")
 | lst {a:Addr} {xs:List V} (e:H a=some (.lst xs)):TyOf K H (.ref a) (.type "list")
 | frz {a:Addr} {o:Obj} {xs:List V} (e:H a=some (.frz o (.lst xs))):TyOf K H (.ref a) (.type "list")
 | tup {a:Addr} {xs:List V} (e:H a=some (.tup xs)):TyOf K H (.ref a) (.type "tuple")
 | dK {a:Addr} {kvs:List (Key × V)} (e:H a=some (.dK kvs)):TyOf K H (.ref a) (.type "dict")
 | dT {a:Addr} {kvs:List (List Key × V)} (e:H a=some (.dT kvs)):TyOf K H (.ref a) (.type "dict")
 | ins {a C dx:Addr} {fs:List (Str × V)} (e:H a=some (.ins C dx fs)) (cl:Cls K C) (ha:PySem.W.findIn K (.ref C) "__class__"=some (some (.builtin "object.__class__")))
   (hn:PySem.W.specialIn K (.builtin "object.__class__") "__get__"=some (some (.builtin "getset_descriptor.__get__"))) (htk:PySem.W.takesIn K (.builtin "object.__class__")=some true)
   (hm:PySem.W.mroIn K C (.type "object")=some true):TyOf K H (.ref a) (.ref C)
end
structure Room (k:Nat) (A:Around):Prop where
 hd:A.handled=none
 dp:A.depth+3 * k+5<recursionLimit
 un:A.units+16 * k+200<cLine
 gd:A.guards=some []
theorem Room.mono {j k:Nat} {A:Around} (r:Room k A) (h:j<=k):Room j A:=⟨r.hd,by have:=r.dp;omega,by have:=r.un;omega,r.gd⟩
theorem Room.deeper {k:Nat} {A:Around} (r:Room (k+1) A) (env:Env):Room k (A.deeper env):=
 ⟨r.hd,by have:=r.dp;show A.depth+1+3 * k+5<_;omega,by have:=r.un;show A.units+3+16 * k+200<_;omega,r.gd⟩
theorem Room.depth {k:Nat} {A:Around} (r:Room k A):A.depth<recursionLimit:=by have:=r.dp;omega
theorem Room.units {k:Nat} {A:Around} (r:Room k A):A.units+64<cLine:=by have:=r.un;omega
def tNil:TA:=fun _ H Q=>Q [] H
def tCons (ta:TE) (tr:TA):TA:=fun σ H Q=>ta σ H fun x H1=>tr σ H1 fun xs H2=>Q (x::xs) H2
section
variable {X:Cx} {e:Expr} {es:List Expr} {te:TE} {t:TA} {pos:Pos}
theorem pa_nil:PA X [] tNil:=fun _ _ _ _ H Q I h=>Calls.spliced_nil ⟨[],H,I,.nil,h⟩
theorem pa_cons (ha:PE X e te) (hr:PA X es t) (hs:starEach (e::es) X.env=(false,eval e X.env)::starEach es X.env:=by rfl):PA X (e::es) (tCons te t):=by
 intro pos pins s σ H Q I h
 rw [hs]
 show wpAny _ _ (spliced ((false,eval e X.env)::backTo pos (starEach es X.env))) _ _ s
 refine Calls.spliced_cons (thn (ha pins s σ H _ I h) fun u s1 ⟨x,H1,I1,r1,q1⟩=>?_)
 exact thn (hr pos pins s1 σ H1 _ I1 q1) fun us s2 ⟨xs,H2,I2,r2,q2⟩=>⟨x::xs,H2,I2,.cons r1 r2,q2⟩
def tTup (t:TA):TE:=fun σ H Q=>t σ H fun xs H1=>xs.length<=sizeLine/\∀p,H1 p=none->Q (.ref p) (upd H1 p (.tup xs))
def tLst (t:TA):TE:=fun σ H Q=>t σ H fun xs H1=>xs.length<=sizeLine/\∀p,H1 p=none->Q (.ref p) (upd H1 p (.lst xs))
theorem pe_tup {x1} (h:PA X es t):PE X (.Tuple es x1 pos) (tTup t):=by
 intro pins s σ H Q I hq
 refine wpAny_Tuple_spliced (thn (h pos pins s σ H _ I hq) fun us s1 ⟨xs,H1,I1,r,z,q⟩=>⟨by rw [<-r.length];exact z,?_⟩)
 have hf:H1 s1.heap.objs.size=none:=I1.hok.fresh (Nat.le_refl _)
 refine ⟨.ref s1.heap.objs.size,upd H1 s1.heap.objs.size (.tup xs),I1.laid (t':=s1.toks) (fun b u e=>Heap.get?_push_of_some _ e) (Nat.le_refl _) ?_,rfl,q _ hf⟩
 exact ⟨z,us,r,⟨_,Heap.get?_push_size _ rfl,rfl,_,rfl⟩⟩
theorem pe_lst (h:PA X es t):PE X (.List es pos) (tLst t):=by
 intro pins s σ H Q I hq
 refine wpAny_List_spliced (thn (h pos pins s σ H _ I hq) fun us s1 ⟨xs,H1,I1,r,z,q⟩=>⟨by rw [<-r.length];exact z,?_⟩)
 have hf:H1 s1.heap.objs.size=none:=I1.hok.fresh (Nat.le_refl _)
 refine ⟨.ref s1.heap.objs.size,upd H1 s1.heap.objs.size (.lst xs),I1.laid (t':=s1.toks) (fun b u e=>Heap.get?_push_of_some _ e) (Nat.le_refl _) ?_,rfl,q _ hf⟩
 exact ⟨z,us,0,r,Heap.get?_push_size _ rfl⟩
end
abbrev Sp:=List V->Hp->VK->XK->Prop
abbrev CXT:=List Env->Hp->Shared->XK->Value->Shared->Prop
structure Env0 (P:Program) (w:World) (K:PySem.W.Frag) (mg:Str->Option Value) (base:Heap) (A:Around) (outer:List Env) (s:Shared) (H:Hp):Prop where
 frames:A.frames=some outer
 mod:Mod K mg base
 bs:∀b o,base.get? b=some o->s.heap.get? b=some o/\H b=none
 bsz:base.objs.size<=s.heap.objs.size
 funs:s.heap.FunFrames base outer
 frf:∀b∈frs outer,H b=none
 hok:HOk P w H s.heap
 bare:AllBare s.gens
def CE (outer:List Env) (P:Program) (w:World) (H:Hp) (s:Shared) (Q:VK) (u:Value) (s':Shared):Prop:=
 ∃v H',s'.os=s.os/\AllBare s'.gens/\Un (frs outer) [] H H' s.heap s'.heap/\HOk P w H' s'.heap/\RelV v u/\Q v H'
def CR (CX:CXT) (outer:List Env) (P:Program) (w:World) (H:Hp) (s:Shared) (Q:VK) (E:XK) (r:Result) (s':Shared):Prop:=
 match r with
 | .ok (.ret u)=>CE outer P w H s Q u s'
 | .ok _=>False
 | .error e=>CX outer H s E e s'
structure FnOk (P:Program) (w:World) (K:PySem.W.Frag) (mg:Str->Option Value) (base:Heap) (CX:CXT) (k:Nat) (f:Addr) (fd:FuncData) (ps:List Str) (sp:Sp):Prop where
 len:∀vs H Q E,sp vs H Q E->vs.length=ps.length
 run:∀(A:Around) (outer:List Env) (s:Shared) (H:Hp) (args:Args) (us:List Value) (vs:List V) (Q:VK) (E:XK),Room k A->Env0 P w K mg base A outer s H->BindsTo s fd args (ps.zip us)->Vals vs us->sp vs H Q E->
  codeAny (model P w) A (.call (.ref f) args) (CR CX outer P w H s Q E) s
section
variable {X:Cx} {pins:List (Addr × Obj)} {σ:St} {H:Hp} {s s':Shared}
theorem Inv.env0 (I:Inv X pins σ H s):Env0 X.prog X.w X.K X.mg X.base X.A X.stack s H:=
 ⟨I.ok.frames,I.ok.mod,I.bs,Nat.le_trans I.ok.bsz I.sz,I.stack,I.stkFree,I.hok,I.bare⟩
theorem Inv.after {Q:VK} {u:Value} (I:Inv X pins σ H s) (h:CE X.stack X.prog X.w H s Q u s'):EP X pins σ Q u s':=by
 obtain ⟨v,H',os,bare,un,hok,r,q⟩:=h
 obtain ⟨hh,g,d,t,os'⟩:=s'
 obtain rfl:os'=s.os:=os
 exact ⟨v,H',I.call (h':=hh) (g':=g) (d':=d) (t':=t) (ch:=[]) un hok bare (fun b z=>absurd z (by simp)),r,q⟩
end
def tCall (sp:Sp) (dvs:List V) (E:XK) (t:TA):TE:=fun σ H Q=>t σ H fun vs H1=>sp (vs++dvs) H1 Q E
def Binds (K:PySem.W.Frag) (fd:FuncData) (ps:List Str) (ds:List Value):Prop:=
 ∀(s:Shared) (us:List Value),K.In s.heap->(us++ds).length=ps.length->BindsTo s fd ⟨us,[]⟩ (ps.zip (us++ds))
theorem Binds.all {K:PySem.W.Frag} {fd:FuncData} {ps:List Str} (h:∀us:List Value,us.length=ps.length->bindArgs fd ⟨us,[]⟩=pure (ps.zip us)):Binds K fd ps []:=fun s us _ hl=>by
 rw [List.append_nil] at hl ⊢
 exact .of_eq (h us hl)
def Passes (CX:CXT) (X:Cx) (E:XK):Prop:=∀(pins:List (Addr × Obj)) (σ:St) (H:Hp) (s:Shared) (e:Value) (s':Shared),Inv X pins σ H s->CX X.stack H s E e s'->X.xe e s'
section
variable {X:Cx} {CX:CXT} {k:Nat} {f C:Addr} {fd:FuncData} {ps:List Str} {sp:Sp} {dvs:List V} {ds:List Value} {E:XK} {x m:Str} {p pos apos:Pos} {e o:Expr} {es:List Expr} {ta:TE} {t:TA}
theorem run_fn {pins:List (Addr × Obj)} {σ:St} {H:Hp} {s:Shared} {Q:VK} {us:List Value} {vs:List V} (F:FnOk X.prog X.w X.K X.mg X.base CX k f fd ps sp) (hr:Room k X.A) (hb:Binds X.K fd ps ds) (hd:Vals dvs ds) (hx:Passes CX X E)
  (I:Inv X pins σ H s) (r:Vals vs us) (h:sp (vs++dvs) H Q E):wpAny (model X.prog X.w) X.A (call (.ref f) us) (EP X pins σ Q) X.xe s:=by
 have r2:Vals (vs++dvs) (us++ds):=r.append hd
 have hl:(us++ds).length=ps.length:=by rw [<-r2.length];exact F.len _ _ _ _ h
 refine wpAny_call (codeAny_mono (F.run X.A X.stack s H ⟨us,[]⟩ (us++ds) (vs++dvs) Q E hr I.env0 (hb s us I.kIn hl) r2 h) fun r s' hq=>?_)
 cases r with
 | error e=>exact hx pins σ H s e s' I hq
 | ok fl=>
  cases fl with
  | ret u=>exact I.after hq
  | next=>exact False.elim hq
  | brk=>exact False.elim hq
  | cont=>exact False.elim hq
theorem pe_call (F:FnOk X.prog X.w X.K X.mg X.base CX k f fd ps sp) (hr:Room k X.A) (hg:Gl X x) (hm:X.mg x=some (.ref f)) (hk:PySem.W.keepIn X.K (.ref f)=true) (hb:Binds X.K fd ps ds) (hd:Vals dvs ds) (hx:Passes CX X E)
  (ha:PA X (e::es) t) (hdb:(x == ("__debug__":Str))=false:=by decide) (he:starEach (e::es) X.env=(false,eval e X.env)::starEach es X.env:=by rfl) (hpl:(backTo pos (starEach es X.env)).any (·.1)=false:=by rfl) :
  PE X (.Call (.Name x p) (e::es) [] pos) (tCall sp dvs E t):=by
 intro pins s σ H Q I h
 refine wpAny_Call_Name_kw (ld_glob I hg hm ?_ hdb)
 refine PySem.W.callWith_K (h₀:=X.base) I.ok.mod.kin hk (thn (ha pos pins s σ H _ I h) fun us s1 ⟨vs,H1,I1,r,q⟩=>⟨I1.kIn,?_⟩) he hpl
 exact run_fn F hr hb hd hx I1 r q
end
structure FnScope (N P:List Str) (sc:Scope):Prop where
 kind:sc.kind=.function
 co:sc.isCoroutine=false
 gen:sc.isGenerator=false
 nd:N.Nodup
 pre:N.take P.length=P
 par:∀x∈P,sc.names.lookup x=some .local\/sc.names.lookup x=some .cell
 nofree:∀y∈sc.names,y.2≠.free
theorem bindL_out {kindOf:Str->Option NameKind} {x:Str}:∀{binds:List (Str × Value)} {m:Str->Option Value},(∀v,(x,v) ∉ binds)->bindL kindOf binds m x=m x
 | [],_,_=>rfl
 | (n,v)::r,m,h=>by
  unfold bindL
  rw [bindL_out fun w hw=>h w (List.mem_cons_of_mem _ hw)]
  split
  ·have:x≠n:=by rintro rfl;exact h v List.mem_cons_self
   simp [this]
  ·rfl
theorem bindC_out {kindOf:Str->Option NameKind} {x:Str}:∀{binds:List (Str × Value)} {m:Str->Option Value},(∀v,(x,v) ∉ binds)->bindC kindOf binds m x=m x
 | [],_,_=>rfl
 | (n,v)::r,m,h=>by
  unfold bindC
  rw [bindC_out fun w hw=>h w (List.mem_cons_of_mem _ hw)]
  split
  ·rfl
  ·have:x≠n:=by rintro rfl;exact h v List.mem_cons_self
   simp [this]
theorem bindL_get {kindOf:Str->Option NameKind} {x:Str} {v:Value}:∀{P:List Str} {vs:List Value} {i:Nat} {m:Str->Option Value},P.Nodup->P[i]? = some x->vs[i]? = some v->kindOf x=some .local->
  bindL kindOf (P.zip vs) m x=some v
 | [],_,_,_,_,h,_,_=>by simp at h
 | _::_,[],_,_,_,_,h,_=>by simp at h
 | p::P,w::vs,0,m,nd,h1,h2,hk=>by
  simp at h1 h2;subst h1;subst h2
  show bindL kindOf ((p,w)::P.zip vs) m p=_
  unfold bindL
  rw [bindL_out fun v hv=>(List.nodup_cons.mp nd).1 (List.of_mem_zip hv).1,if_pos hk]
  simp
 | p::P,w::vs,i+1,m,nd,h1,h2,hk=>by
  show bindL kindOf ((p,w)::P.zip vs) m x=_
  unfold bindL
  exact bindL_get (i:=i) (List.nodup_cons.mp nd).2 (by simpa using h1) (by simpa using h2) hk
theorem bindC_get {kindOf:Str->Option NameKind} {x:Str} {v:Value}:∀{P:List Str} {vs:List Value} {i:Nat} {m:Str->Option Value},P.Nodup->P[i]? = some x->vs[i]? = some v->kindOf x≠some .local->
  bindC kindOf (P.zip vs) m x=some v
 | [],_,_,_,_,h,_,_=>by simp at h
 | _::_,[],_,_,_,_,h,_=>by simp at h
 | p::P,w::vs,0,m,nd,h1,h2,hk=>by
  simp at h1 h2;subst h1;subst h2
  show bindC kindOf ((p,w)::P.zip vs) m p=_
  unfold bindC
  rw [bindC_out fun v hv=>(List.nodup_cons.mp nd).1 (List.of_mem_zip hv).1,if_neg hk]
  simp
 | p::P,w::vs,i+1,m,nd,h1,h2,hk=>by
  show bindC kindOf ((p,w)::P.zip vs) m x=_
  unfold bindC
  exact bindC_get (i:=i) (List.nodup_cons.mp nd).2 (by simpa using h1) (by simpa using h2) hk
def start (N:List Str) (vs:List V):St:=vs.map some++List.replicate (N.length - vs.length) none
def cxOf (CX:CXT) (P:Program) (w:World) (K:PySem.W.Frag) (mg:Str->Option Value) (base:Heap) (N:List Str) (qual:Str) (scope:Scope) (f:Addr) (cd:Value) (A:Around) (outer:List Env) (s:Shared) (H:Hp) (E:XK):Cx where
 prog:=P
 w:=w
 K:=K
 mg:=mg
 base:=base
 A:=A.deeper (envOfC qual scope s.heap.objs.size f cd)
 N:=N
 s₀:=s
 H₀:=H
 env:=envOfC qual scope s.heap.objs.size f cd
 outer:=outer
 stack:=envOfC qual scope s.heap.objs.size f cd::outer
 ex:=[]
 calm:=true
 fn:=fun _=>true
 pn:=[]
 xe:=fun e s'=>wpAny (model P w) (A.deeper (envOfC qual scope s.heap.objs.size f cd)) (leaving (envOfC qual scope s.heap.objs.size f cd) e) (fun _ s''=>CX outer H s E e s'') (fun e' s''=>CX outer H s E e' s'') s'
theorem cell_has {sc:Scope} {n:Nat} {x:Str} (h:sc.names.lookup x=some .cell):∃c,(cellsFrom n sc.names []).lookup x=some c:=by
 have q:=PySem.W.cellsFrom_some sc.names n [] (.inl h)
 exact Option.isSome_iff_exists.mp q
theorem inv_start {CX:CXT} {P:Program} {w:World} {K:PySem.W.Frag} {mg:Str->Option Value} {base:Heap} {N ps:List Str} {qual:Str} {scope:Scope} {f:Addr} {cd:Value} {A:Around} {outer:List Env} {s s1:Shared} {H:Hp} {E:XK} {us:List Value} {vs:List V}
  (S:FnScope N ps scope) (hd:A.handled=none) (e0:Env0 P w K mg base A outer s H) (hl:vs.length=ps.length) (r:Vals vs us)
  (x:InCallC s s.heap.objs.size (bindL (envOfC qual scope s.heap.objs.size f cd).kindOf (ps.zip us) fun _=>none) (cellsFrom (s.heap.objs.size+1) scope.names []) (bindC (envOfC qual scope s.heap.objs.size f cd).kindOf (ps.zip us) fun _=>none) s1) :
  Inv (cxOf CX P w K mg base N qual scope f cd A outer s H E) [] (start N vs) H s1:=by
 have hpl:ps.length<=N.length:=by have:=congrArg List.length S.pre;rw [List.length_take] at this;omega
 obtain ⟨h1,tk,rfl,hk⟩:=x.done
 have noA:∀b:Addr,b ∉ (cxOf CX P w K mg base N qual scope f cd A outer s H E).ex:=fun b z=>absurd (show b∈([]:List Addr) from z) (by simp)
 refine ⟨⟨e0.mod,S.kind,rfl,rfl,Nat.le_refl _,fun y z c h1 h2=>?_,fun y hy=>?_,fun y c _ h=>?_,fun _=>hd,Around.frames_deeper e0.frames,.inr ⟨rfl,rfl⟩,fun b z=>absurd z (noA b),e0.bs,e0.bsz,fun b _ _=>noA b,fun b z=>absurd z (noA b),e0.funs,e0.frf⟩,
  rfl,e0.bare,Un.kept hk,⟨_,x.toInCall.ns,fun i y v h1 h2 h3=>?_⟩,fun y c h=>⟨_,x.cell y c h⟩,e0.hok.fresh (Nat.le_refl _),fun y c h=>?_,fun p hp=>absurd (show p∈([]:List (Addr × Obj)) from hp) (by simp),e0.hok.kept hk,?_⟩
 ·exact name_of_addr x.apart (PySem.mem_of_lookup h1) (PySem.mem_of_lookup h2)
 ·have hy:scope.names.lookup y=some .cell\/scope.names.lookup y=some .free:=hy
  rcases hy with hy|hy
  ·exact cell_has hy
  ·exact absurd rfl (S.nofree _ (PySem.mem_of_lookup hy))
 ·exact Nat.le_of_lt (x.above y c (PySem.mem_of_lookup h))
 ·have hi:i<vs.length:=by
   unfold start at h2
   by_cases hi:i<vs.length
   ·exact hi
   ·rw [List.getElem?_append_right (by simpa using hi)] at h2
    rw [List.getElem?_replicate] at h2
    split at h2<;>cases h2
  have ha:vs[i]? = some v:=by
   unfold start at h2
   rw [List.getElem?_append_left (by simpa using hi),List.getElem?_map] at h2
   cases e:vs[i]? with
   | none=>rw [e] at h2;cases h2
   | some a=>rw [e] at h2;cases h2;rfl
  obtain ⟨u,hu,rv⟩:=r.get ha
  have hp:ps[i]? = some y:=by
   rw [<-S.pre,List.getElem?_take_of_lt (by omega)];exact h1
  have ndP:ps.Nodup:=by rw [<-S.pre];exact S.nd.sublist (List.take_sublist _ _)
  refine ⟨u,rv,?_⟩
  rcases S.par y (List.mem_of_getElem? hp) with k|k
  ·exact .inl ⟨k,bindL_get ndP hp hu k⟩
  ·obtain ⟨c,e⟩:=cell_has (n:=s.heap.objs.size+1) k
   refine .inr ⟨.inl k,c,e,?_⟩
   have q:=x.cell y c e
   rw [bindC_get ndP hp hu (by show scope.names.lookup y≠_;rw [k];decide)] at q
   exact q
 ·exact e0.hok.fresh (Nat.le_of_lt (x.above y c (PySem.mem_of_lookup h)))
 ·unfold start
  show _=N.length
  rw [List.length_append,List.length_map,List.length_replicate]
  omega
theorem fn_of {CX:CXT} {P:Program} {w:World} {K:PySem.W.Frag} {mg:Str->Option Value} {base:Heap} {k:Nat} {f:Addr} {name qual:Str} {params:Arguments} {body:List Stmt} {scope:Scope} {dV kV doc pm cdv ct oc:Value} {an od:Option Addr}
  {osl:Array (Option Value)} {N ps:List Str} {sp:Sp} (lk:K.lookup f=some ⟨oc,od,.func (PySem.W.fnOf name qual params body scope dV kV doc pm an cdv ct),osl⟩) (hcd:PySem.W.codeIn K cdv qual=true) (S:FnScope N ps scope)
  (len:∀vs H Q E,sp vs H Q E->vs.length=ps.length)
  (hbody:∀(A:Around) (outer:List Env) (s:Shared) (H:Hp) (vs:List V) (Q:VK) (E:XK),Room k (A.deeper (envOfC qual scope s.heap.objs.size f cdv))->sp vs H Q E->
   ∃t,PSs (cxOf CX P w K mg base N qual scope f cdv A outer s H E) body t/\t { nx:=fun _ H'=>Q .non H',rt:=Q } (start N vs) H) :
  FnOk P w K mg base CX (k+1) f (PySem.W.fnOf name qual params body scope dV kV doc pm an cdv ct) ps sp:=by
 refine ⟨len,fun A outer s H args us vs Q E hr e0 hb r hsp=>?_⟩
 have hl:=len _ _ _ _ hsp
 have KX:K.In s.heap:=e0.mod.kin.keeps fun b o e=>(e0.bs b o e).1
 have lim:s.heap.NoLimit:=e0.mod.nolimit.keeps fun b o e=>(e0.bs b o e).1
 have hkind:∀y∈ps.zip us,scope.names.lookup y.1=some .local\/(scope.names.lookup y.1=some .cell/\((cellsFrom (s.heap.objs.size+1) scope.names []).lookup y.1).isSome=true):=fun ⟨n,v⟩ hy=>by
  rcases S.par n (List.of_mem_zip hy).1 with q|q
  ·exact .inl q
  ·exact .inr ⟨q,PySem.W.cellsFrom_some _ _ _ (.inl q)⟩
 refine codeAny_call_function hr.depth (KX _ _ lk) rfl S.co S.gen rfl (PySem.W.codeRec_of KX hcd) (hb _ _ _ _ ?_)
 refine wpAny_newFunctionEnv_cells S.kind hkind fun env he s1 x=>?_
 subst he
 refine ⟨lim.keeps x.toInCall.keep,codeAny_func ?_⟩
 obtain ⟨t,ht,hq⟩:=hbody A outer s H vs Q E (hr.deeper _) hsp
 have I:Inv (cxOf CX P w K mg base N qual scope f cdv A outer s H E) [] (start N vs) H s1:=inv_start S hr.hd e0 hl r x
 refine wpAny_mono (ht [] s1 (start N vs) H _ I hq) (fun fl s' hs=>?_) fun e s' hs=>hs
 have fin:∀{σ':St} {H':Hp} {v:V} {u:Value},Inv (cxOf CX P w K mg base N qual scope f cdv A outer s H E) [] σ' H' s'->RelV v u->Q v H'->CE outer P w H s Q u s':=
  fun {σ' H' v u} J rv q=>⟨v,H',J.os,J.bare,J.base,J.hok,rv,q⟩
 cases fl with
 | ret u=>
  obtain ⟨v,σ',H',J,rv,q⟩:=hs
  exact fin J rv q
 | next=>
  obtain ⟨σ',H',J,q⟩:=hs
  exact fin (v:=V.non) (u:=Value.none) J rfl q
 | brk=>
  obtain ⟨_,_,_,q⟩:=hs
  exact False.elim q
 | cont=>
  obtain ⟨_,_,_,q⟩:=hs
  exact False.elim q
section
variable {X:Cx} {x:Str} {p pos:Pos} {e:Expr} {es:List Expr} {t:TA} {id T:String} {r:List V->Hp->VK->Prop}
def tCB (r:List V->Hp->VK->Prop) (t:TA):TE:=fun σ H Q=>t σ H fun vs H1=>r vs H1 Q
theorem pe_callB (hc:CallR X (.builtin id) r) (hg:Gl X x) (hm:X.mg x=none) (hv:bootBuiltins x=some (.builtin id)) (ha:PA X (e::es) t) (hn:x≠"__name__":=by decide) (hdb:(x == ("__debug__":Str))=false:=by decide)
  (he:starEach (e::es) X.env=(false,eval e X.env)::starEach es X.env:=by rfl) (hpl:(backTo pos (starEach es X.env)).any (·.1)=false:=by rfl):PE X (.Call (.Name x p) (e::es) [] pos) (tCB r t):=by
 intro pins s σ H Q I h
 refine wpAny_Call_Name_kw (ld_blt I hg hm hv ?_ hn hdb)
 exact PyProof.Rows.callWith_builtin1 (thn (ha pos pins s σ H _ I h) fun us s1 ⟨vs,H1,I1,r1,q1⟩=>hc pins s1 σ H1 vs us Q I1 r1 q1) he hpl
theorem pe_callTy (hc:CallR X (.type T) r) (hg:Gl X x) (hm:X.mg x=none) (hv:bootBuiltins x=some (.type T)) (ha:PA X (e::es) t) (hn:x≠"__name__":=by decide) (hdb:(x == ("__debug__":Str))=false:=by decide)
  (he:starEach (e::es) X.env=(false,eval e X.env)::starEach es X.env:=by rfl) (hpl:(backTo pos (starEach es X.env)).any (·.1)=false:=by rfl):PE X (.Call (.Name x p) (e::es) [] pos) (tCB r t):=by
 intro pins s σ H Q I h
 refine wpAny_Call_Name_kw (ld_blt I hg hm hv ?_ hn hdb)
 exact PyProof.Rows.callWith_type1 (thn (ha pos pins s σ H _ I h) fun us s1 ⟨vs,H1,I1,r1,q1⟩=>hc pins s1 σ H1 vs us Q I1 r1 q1) he hpl
end
end L2
namespace HT
open PySem PyProof.Rows
section
open PySem.SeqAt
open PySem.AutoSeq1 (wpAny_loadPart')
open PySem.MeetsSeq PySem.MeetsSeq2 PySem.MeetsSeq3
end
section
variable {prog:Program} {w:World} {A:Around} {E:Value->Shared->Prop} {s:Shared}
def sIx (n d:Nat):Option Int->Nat
 | none=>d
 | some v=>if v<0 then (v+(n:Int)).toNat else min v.toNat n
theorem sIx_none (n d:Nat):sIx n d none=d:=rfl
theorem sIx_nat (n d k:Nat):sIx n d (some (k:Int))=min k n:=by
 show (if (k:Int)<0 then ((k:Int)+(n:Int)).toNat else min (k:Int).toNat n)=min k n
 rw [if_neg (by omega),Int.toNat_natCast]
end
end HT
namespace L2
open PySem PySem.Spec PyProof.Rows
abbrev TO:=St->Hp->(Option Int->Hp->Prop)->Prop
def PO (X:Cx) (e:Option Expr) (t:TO):Prop:=
 ∀(pins:List (Addr × Obj)) (s:Shared) (σ:St) (H:Hp) (Q:Option Int->Hp->Prop),Inv X pins σ H s->t σ H Q->
  wpAny (model X.prog X.w) X.A (evalPart e X.env) (fun u s'=>∃o H',Inv X pins σ H' s'/\IsPart u o/\Q o H') X.xe s
def tNoPart:TO:=fun _ H Q=>Q none H
def tPart (t:TE):TO:=fun σ H Q=>t σ H fun x H1=>∃i,x=.int i/\Q (some i) H1
section
variable {X:Cx} {e:Expr} {te:TE} {lo hi:Option Expr} {tl th:TO} {pos p2:Pos}
theorem po_none:PO X none tNoPart:=by
 intro pins s σ H Q I h
 rw [evalPart_none]
 exact wpAny_pure ⟨none,H,I,.none,h⟩
theorem po_some (h:PE X e te):PO X (some e) (tPart te):=by
 intro pins s σ H Q I hw
 rw [evalPart_some]
 refine thn (h pins s σ H _ I hw) fun u s1 ⟨x,H1,I1,r1,q1⟩=>?_
 obtain ⟨i,rfl,q⟩:=q1
 obtain ⟨t,rfl⟩:=r1
 exact ⟨some i,H1,I1,.int i t,q⟩
def SlR (X:Cx) (r:V->Option Int->Option Int->Hp->VK->Prop):Prop:=
 ∀(pins:List (Addr × Obj)) (s:Shared) (σ:St) (H:Hp) (x:V) (v vl vu:Value) (lo hi:Option Int) (sl:Addr) (Q:VK),Inv X pins σ H s->RelV x v->s.heap.IsSliceOf sl vl vu .none->IsPart vl lo->IsPart vu hi->r x lo hi H Q->
  ∃T id,typeLookup (.type T) "__getitem__"=pure (some (.builtin id))/\s.TypeIs v T/\wpAny (model X.prog X.w) X.A (getItem v (.ref sl)) (EP X pins σ Q) X.xe s
def tSl (r:V->Option Int->Option Int->Hp->VK->Prop) (te:TE) (tl th:TO):TE:=fun σ H Q=>te σ H fun x H1=>tl σ H1 fun l H2=>th σ H2 fun u H3=>r x l u H3 Q
theorem pe_slice {r:V->Option Int->Option Int->Hp->VK->Prop} (hr:SlR X r) (he:PE X e te) (hl:PO X lo tl) (hu:PO X hi th):PE X (.Subscript e (.Slice lo hi none p2) pos) (tSl r te tl th):=by
 intro pins s σ H Q I h
 refine Subscript_ (thn (he pins s σ H _ I h) fun v s1 ⟨x,H1,I1,r1,q1⟩=>?_)
 refine wpAny_Slice (thn (hl pins s1 σ H1 _ I1 q1) fun vl s2 ⟨l,H2,I2,pl,q2⟩=>thn (hu pins s2 σ H2 _ I2 q2) fun vu s3 ⟨u,H3,I3,pu,q3⟩=>?_)
 rw [evalPart_none]
 refine wpAny_pure ?_
 have I4:Inv X pins σ H3 { s3 with heap:=s3.heap.push { cls:=.type "slice",data:=.fields #[vl,vu,.none] } }:=I3.kept (t':=s3.toks) fun b ob q=>Heap.get?_push_of_some _ q
 obtain ⟨T,id,hT,ht,hg⟩:=hr pins { s3 with heap:=s3.heap.push { cls:=.type "slice",data:=.fields #[vl,vu,.none] } } σ H3 x v vl vu l u s3.heap.objs.size Q I4 r1 (Heap.IsSliceOf.new ..) pl pu q3
 show wpAny (model X.prog X.w) X.A (subscriptTail e (.Slice lo hi none p2) v (.ref s3.heap.objs.size)) (EP X pins σ Q) X.xe { s3 with heap:=s3.heap.push { cls:=.type "slice",data:=.fields #[vl,vu,.none] } }
 exact tail_any (ops:=[.ref s3.heap.objs.size,v]) ht hT hg (by with_unfolding_all rfl)
def cutV (xs:List V) (lo hi:Option Int):List V:=(xs.drop (HT.sIx xs.length 0 lo)).take (HT.sIx xs.length xs.length hi - HT.sIx xs.length 0 lo)
theorem cutV_length (xs:List V) (lo hi:Option Int):(cutV xs lo hi).length<=xs.length:=by
 unfold cutV
 rw [List.length_take,List.length_drop]
 omega
end
def ixN (n:Nat) (i:Int):Option Nat:=if 0<=i then (if i<n then some i.toNat else none) else if -(n:Int)<=i then some (i+n).toNat else none
def atI {α:Type} (xs:List α) (i:Int):Option α:=(ixN xs.length i).bind fun j=>xs[j]?
theorem ixN_seq {n:Nat} {i:Int} {j:Nat} (h:ixN n i=some j):seqIndex? i n=some j/\j<n/\-(n:Int)<=i/\i<n:=by
 unfold ixN at h
 by_cases h0:0<=i
 ·rw [if_pos h0] at h
  by_cases h1:i<n
  ·rw [if_pos h1] at h
   have e:i.toNat=j:=Option.some.inj h
   exact ⟨by rw [seqIndex_of h0 h1,e],by omega,by omega,h1⟩
  ·rw [if_neg h1] at h;cases h
 ·rw [if_neg h0] at h
  by_cases h1:-(n:Int)<=i
  ·rw [if_pos h1] at h
   have e:(i+n).toNat=j:=Option.some.inj h
   exact ⟨by rw [seqIndex_neg (by omega) h1,e],by omega,h1,by omega⟩
  ·rw [if_neg h1] at h;cases h
theorem atI_get {α:Type} {xs:List α} {i:Int} {v:α} (h:atI xs i=some v):∃j,seqIndex? i xs.length=some j/\xs[j]? = some v/\j<xs.length/\-(xs.length:Int)<=i/\i<xs.length:=by
 unfold atI at h
 cases e:ixN xs.length i with
 | none=>rw [e] at h;cases h
 | some j=>
  rw [e] at h
  obtain ⟨h1,h2,h3,h4⟩:=ixN_seq e
  exact ⟨j,h1,h,h2,h3,h4⟩
theorem atI_nat {α:Type} {xs:List α} {j:Nat} {v:α} (h:xs[j]? = some v):atI xs (j:Int)=some v:=by
 have hj:j<xs.length:=(List.getElem?_eq_some_iff.mp h).1
 have e:ixN xs.length (j:Int)=some j:=by
  unfold ixN
  rw [if_pos (by omega),if_pos (by omega)];simp
 unfold atI;rw [e];exact h
def PlainIx (b:Expr):Prop:=∀o i,subscripted b false o i=operate [o,i] (getItem o i)
def IxR (X:Cx) (r:R2):Prop:=
 ∀(value slice:Expr) (pins:List (Addr × Obj)) (s:Shared) (σ:St) (H:Hp) (x y:V) (v u:Value) (Q:VK),Inv X pins σ H s->RelV x v->RelV y u->r x y H Q->
  subscripted slice false v u=operate [v,u] (getItem v u)->wpAny (model X.prog X.w) X.A (subscriptTail value slice v u) (EP X pins σ Q) X.xe s
def MtR (X:Cx) (id:String) (r:V->List V->Hp->VK->Prop):Prop:=
 ∀(pins:List (Addr × Obj)) (s:Shared) (σ:St) (H:Hp) (x:V) (xs:List V) (v:Value) (us:List Value) (Q:VK),Inv X pins σ H s->RelV x v->Vals xs us->r x xs H Q->
  wpAny (model X.prog X.w) X.A (call (.builtin id) (v::us)) (EP X pins σ Q) X.xe s
section
variable {X:Cx} {a b:Expr} {ta tb:TE} {pos:Pos}
theorem IxR.or {r r':R2} (h:IxR X r) (h':IxR X r'):IxR X (fun x y H Q=>r x y H Q\/r' x y H Q):=by
 intro value slice pins s σ H x y v u Q I rx ry q hs
 rcases q with q|q
 ·exact h value slice pins s σ H x y v u Q I rx ry q hs
 ·exact h' value slice pins s σ H x y v u Q I rx ry q hs
theorem pe_ix {r:R2} (hr:IxR X r) (ha:PE X a ta) (hb:PE X b tb) (hs:PlainIx b):PE X (.Subscript a b pos) (tOp r ta tb):=by
 intro pins s σ H Q I h
 exact Subscript_ (binT ha hb I h fun v u s2 x y H2 I2 rx ry q=>hr a b pins s2 σ H2 x y v u Q I2 rx ry q (hs _ _))
def rIxL (K:PySem.W.Frag):R2:=fun x y H Q=>∃p xs i v,x=.ref p/\y=.int i/\SqL K H p xs/\atI xs i=some v/\Q v H
def rIxT (K:PySem.W.Frag):R2:=fun x y H Q=>∃p xs i v,x=.ref p/\y=.int i/\SqT K H p xs/\atI xs i=some v/\Q v H
theorem ix_list:IxR X (rIxL X.K):=by
 intro value slice pins s σ H x y v u Q I rx ry h hs
 obtain ⟨p,xs,i,z,rfl,rfl,hq,he,q⟩:=h
 cases rx
 obtain ⟨t,rfl⟩:=ry
 obtain ⟨its,r,pl,hz⟩:=I.list hq
 obtain ⟨j,h1,h2,h3,h4,h5⟩:=atI_get he
 obtain ⟨w,ew,rw'⟩:=r.get h2
 have hl:=r.length
 have hn:=line63
 have fin:EP X pins σ Q w s:=⟨z,H,I,rw',q⟩
 by_cases h0:0<=i
 ·have hj:i.toNat=j:=by
   rw [seqIndex_of h0 h5] at h1
   exact Option.some.inj h1
  exact item_listR pl.isList h0 (by omega) (by rw [hj];simpa using ew) fin hs
 ·have hj:(i+(its.toArray.size:Int)).toNat=j:=by
   rw [seqIndex_neg (by omega) h4] at h1
   rw [List.size_toArray,<-hl]
   exact Option.some.inj h1
  exact subscriptTail_builtinR (x:=w) pl.isList.typeIs slot_list_getitem.lookup
   (wpAny_getItem_list_neg (Q:=fun r s'=>r=w/\EP X pins σ Q r s') pl.isList (by omega) (by rw [List.size_toArray]<;>omega) (by omega) (by rw [hj];simpa using ew) ⟨rfl,fin⟩) hs
theorem ix_tup:IxR X (rIxT X.K):=by
 intro value slice pins s σ H x y v u Q I rx ry h hs
 obtain ⟨p,xs,i,z,rfl,rfl,hq,he,q⟩:=h
 cases rx
 obtain ⟨t,rfl⟩:=ry
 obtain ⟨its,r,pl,hz⟩:=I.tuple hq
 obtain ⟨j,h1,h2,h3,h4,h5⟩:=atI_get he
 obtain ⟨w,ew,rw'⟩:=r.get h2
 have hl:=r.length
 have hn:=line63
 have fin:EP X pins σ Q w s:=⟨z,H,I,rw',q⟩
 exact subscriptTail_builtinR (x:=w) pl.typeIs slot_tuple_getitem.lookup
  (getItem_tuple (j:=j) (Q:=fun r s'=>r=w/\EP X pins σ Q r s') pl (by omega) (by omega) (by rw [List.size_toArray,<-hl];exact h1) (by simpa using ew) ⟨rfl,fin⟩) hs
theorem mapSeq_set (its:List Value) (n j:Nat) (u:Value):Obj.mapSeq (·.setIfInBounds j u) { cls:=.type "list",data:=.seq its.toArray n }={ cls:=.type "list",data:=.seq (its.set j u).toArray n }:=by
 simp [Obj.mapSeq]
theorem Inv.lst {pins:List (Addr × Obj)} {σ:St} {H:Hp} {s:Shared} {p:Addr} {xs:List V} (I:Inv X pins σ H s) (h:H p=some (.lst xs)) :
  ∃(its:List Value) (n:Nat),Vals xs its/\s.heap.get? p=some { cls:=.type "list",data:=.seq its.toArray n }/\xs.length<=sizeLine:=by
 obtain ⟨z,its,n,r,e⟩:=I.hok p _ h
 exact ⟨its,n,r,e,z⟩
theorem Inv.lstUpd {pins:List (Addr × Obj)} {σ:St} {H:Hp} {s:Shared} {p:Addr} {xs ys:List V} {its its':List Value} {n n':Nat} {f:Obj->Obj} (I:Inv X pins σ H s) (h:H p=some (.lst xs))
  (ho:s.heap.get? p=some { cls:=.type "list",data:=.seq its.toArray n }) (hf:f { cls:=.type "list",data:=.seq its.toArray n }={ cls:=.type "list",data:=.seq its'.toArray n' }) (r:Vals ys its') (hz:ys.length<=sizeLine) (t:Nat) :
  Inv X pins σ (upd H p (.lst ys)) { s with heap:=s.heap.update p f,toks:=t }:=by
 have e:(s.heap.update p f).get? p=some { cls:=.type "list",data:=.seq its'.toArray n' }:=by
  rw [Heap.get?_update_self f ho (by rw [hf]<;>rfl),hf]
 refine I.write (x:=p) (e:=p) (by rw [h];trivial) (.inl rfl) (fun b u hb q=>(Heap.get?_update_other _ _ (Ne.symm hb)).trans q) ⟨_,e⟩ ?_
 exact ⟨hz,its',n',r,e⟩
def rSetL:V->V->V->Hp->(Hp->Prop)->Prop:=fun o i v H Q=>∃p xs k j,o=.ref p/\i=.int k/\H p=some (.lst xs)/\ixN xs.length k=some j/\Q (upd H p (.lst (xs.set j v)))
theorem set_list:PSet X rSetL:=by
 intro pins s σ H o i v ov iv u Q I ro ri rv h
 obtain ⟨p,xs,k,j,rfl,rfl,hp,hj,q⟩:=h
 cases ro
 obtain ⟨t,rfl⟩:=ri
 obtain ⟨its,n,r,ho,hz⟩:=I.lst hp
 obtain ⟨h1,h2,h3,h4⟩:=ixN_seq hj
 have hl:=r.length
 have hn:=line63
 have I':Inv X pins σ (upd H p (.lst (xs.set j v))) { s with heap:=s.heap.update p (Obj.mapSeq (·.setIfInBounds j u)) }:=
  I.lstUpd hp ho (mapSeq_set its n j u) (r.set rv j) (by rw [List.length_set];exact hz) s.toks
 by_cases h0:0<=k
 ·have hk:k.toNat=j:=by
   rw [seqIndex_of h0 h4] at h1
   exact Option.some.inj h1
  exact PySem.W.ki_setAt ho h0 (by omega) (by rw [List.size_toArray,<-hl];exact h4) (by rw [hk];exact ⟨_,I',q⟩)
 ·have hk:(k+(its.toArray.size:Int)).toNat=j:=by
   rw [seqIndex_neg (by omega) h3] at h1
   rw [List.size_toArray,<-hl]
   exact Option.some.inj h1
  exact PySem.W.ki_setBack ho (by omega) (by rw [List.size_toArray,<-hl];exact h3) (by omega) (by rw [hk];exact ⟨_,I',q⟩)
theorem slice_bounds (lo hi:Option Int) (n:Nat):(sliceBounds lo hi none n).1=((HT.sIx n 0 lo:Nat):Int)/\(sliceBounds lo hi none n).2.1=((HT.sIx n n hi:Nat):Int)/\(sliceBounds lo hi none n).2.2=1:=by
 refine ⟨?_,?_,rfl⟩
 ·cases lo with
  | none=>simp [sliceBounds,HT.sIx]
  | some i=>
   simp only [sliceBounds,HT.sIx,Option.getD_none,show (1:Int) > 0 by decide,if_true]
   by_cases h:i<0
   ·simp only [h,if_true]<;>omega
   ·simp only [h,if_false]<;>omega
 ·cases hi with
  | none=>simp [sliceBounds,HT.sIx]
  | some i=>
   simp only [sliceBounds,HT.sIx,Option.getD_none,show (1:Int) > 0 by decide,if_true]
   by_cases h:i<0
   ·simp only [h,if_true]<;>omega
   ·simp only [h,if_false]<;>omega
theorem slicePick_cut (its:List Value) (lo hi:Option Int):slicePick its.toArray lo hi none=((its.drop (HT.sIx its.length 0 lo)).take (HT.sIx its.length its.length hi - HT.sIx its.length 0 lo)).toArray:=by
 obtain ⟨h1,h2,h3⟩:=slice_bounds lo hi its.toArray.size
 unfold slicePick
 rw [h1,h2,h3]
 simp only [sliceRange_one,pick_run,List.size_toArray]<;>rfl
def rSlL (K:PySem.W.Frag):V->Option Int->Option Int->Hp->VK->Prop:=fun x lo hi H Q=>∃a xs,x=.ref a/\SqL K H a xs/\∀p,H p=none->Q (.ref p) (upd H p (.lst (cutV xs lo hi)))
theorem sl_list:SlR X (rSlL X.K):=by
 intro pins s σ H x v vl vu lo hi sl Q I rx hs pl pu h
 obtain ⟨a,xs,rfl,hx,q⟩:=h
 cases rx
 obtain ⟨its,r,ht,hz⟩:=I.list hx
 have hlen:=r.length
 refine ⟨"list",_,slot_list_getitem.lookup,ht.isList.typeIs,?_⟩
 refine wpAny_getItem_list_slice ht.isList hs pl pu .none (by simp) ?_ (by rw [List.size_toArray]<;>omega)
 rw [slicePick_cut,<-hlen]
 refine ⟨.ref s.heap.objs.size,_,I.laid (t':=s.toks) (o:=.lst (cutV xs lo hi)) (fun b ob q=>Heap.get?_push_of_some _ q) (Nat.le_refl _) ?_,rfl,q _ (I.hok.fresh (Nat.le_refl _))⟩
 exact ⟨Nat.le_trans (cutV_length xs lo hi) hz,_,0,(r.drop (HT.sIx xs.length 0 lo)).take (HT.sIx xs.length xs.length hi - HT.sIx xs.length 0 lo),Heap.get?_push_size _ rfl⟩
theorem call_len_seq:CallR X (.builtin "len") (fun xs H Q=>∃p ys,xs=[.ref p]/\(SqL X.K H p ys\/SqT X.K H p ys)/\Q (.int ys.length) H):=by
 intro pins s σ H xs us Q I r h
 obtain ⟨p,ys,rfl,hq,q⟩:=h
 obtain ⟨u,rfl,rx⟩:=vals1 r
 cases rx
 have hn:=line63
 rcases hq with hq|hq
 ·obtain ⟨its,r',pl,hz⟩:=I.list hq
  have hlen:=r'.length
  exact Calls.call_len_list pl.isList (by simp only [List.size_toArray]<;>omega) ⟨.int ys.length,H,I.tok _,⟨s.toks+1,by rw [List.size_toArray,hlen]⟩,q⟩
 ·obtain ⟨its,r',pl,hz⟩:=I.tuple hq
  have hlen:=r'.length
  exact len_tuple pl (by simp only [List.size_toArray]<;>omega) ⟨.int ys.length,H,I.tok _,⟨s.toks+1,by rw [List.size_toArray,hlen]⟩,q⟩
def tyV (K:PySem.W.Frag) (T:String) (x:V) (H:Hp):Prop:=match x with
 | .str _=>T="str"
 | .int _=>T="int"
 | .ref p=>(T="list"/\∃xs,SqL K H p xs)\/(T="tuple"/\∃o,K.lookup p=some o/\o.cls=.type "tuple"/\o.dict=none) \/
   (T="dict"/\((∃kvs,H p=some (.dK kvs))\/∃kvs,H p=some (.dT kvs)))\/(T="set"/\∃S n,H p=some (.set S n))
 | _=>False
theorem tyV_is {pins:List (Addr × Obj)} {σ:St} {H:Hp} {s:Shared} {T:String} {x:V} {v:Value} (I:Inv X pins σ H s) (r:RelV x v) (ty:tyV X.K T x H) :
  s.TypeIs v T/\∀a,v=.ref a->∃ob,s.heap.get? a=some ob/\ob.dict=none:=by
 cases x with
 | str z=>
  obtain ⟨t,rfl⟩:=r
  cases (show T="str" from ty)
  exact ⟨typeIs_str s z t,fun _ e=>nomatch e⟩
 | int i=>
  obtain ⟨t,rfl⟩:=r
  cases (show T="int" from ty)
  exact ⟨typeIs_int s i t,fun _ e=>nomatch e⟩
 | ref p=>
  cases r
  rcases ty with ⟨rfl,xs,hq⟩|⟨rfl,o,hk,hc,hd⟩|⟨rfl,hk⟩|⟨rfl,S,n,hk⟩
  ·obtain ⟨its,_,pl,_⟩:=I.list hq
   refine ⟨pl.isList.typeIs,fun a e=>?_⟩
   cases e
   obtain ⟨o,n,e,c,hd,_⟩:=pl
   exact ⟨o,e,hd⟩
  ·refine ⟨⟨o,I.kIn p o hk,hc⟩,fun a e=>?_⟩
   cases e
   exact ⟨o,I.kIn _ o hk,hd⟩
  ·have z:∃o,s.heap.get? p=some o/\o.ExactDict:=by
    rcases hk with ⟨kvs,hk⟩|⟨kvs,hk⟩
    ·obtain ⟨_,_,_,_,o,_,_,e,ex,_⟩:=I.hok p _ hk
     exact ⟨o,e,ex⟩
    ·obtain ⟨_,_,_,_,o,_,_,e,ex,_⟩:=I.hok p _ hk
     exact ⟨o,e,ex⟩
   obtain ⟨o,e,ex⟩:=z
   refine ⟨⟨o,e,ex.1⟩,fun a e2=>?_⟩
   cases e2
   exact ⟨o,e,ex.2.1⟩
  ·obtain ⟨o,_,_,_,e,ex,_⟩:=I.hok p _ hk
   refine ⟨⟨o,e,ex.1⟩,fun a e2=>?_⟩
   cases e2
   exact ⟨o,e,ex.2.1⟩
 | _=>exact False.elim ty
def tBM0 (K:PySem.W.Frag) (T:String) (r:V->List V->Hp->VK->Prop) (to:TE):TE:=fun σ H Q=>to σ H fun x H1=>tyV K T x H1/\r x [] H1 Q
def tBM (K:PySem.W.Frag) (T:String) (r:V->List V->Hp->VK->Prop) (to:TE) (t:TA):TE:=fun σ H Q=>to σ H fun x H1=>tyV K T x H1/\t σ H1 fun xs H2=>r x xs H2 Q
variable {o e:Expr} {es:List Expr} {to:TE} {t:TA} {name:Str} {apos cpos:Pos} {T id:String} {r:V->List V->Hp->VK->Prop}
theorem pe_bm0 (pa:PlainAttrs T) (slot:Slot T name id) (hty:typeOf (.builtin id)=pure (.type "method_descriptor")) (hm:MtR X id r) (ho:PE X o to)
  (hbase:attributeBase o name X.env (eval o X.env)=eval o X.env:=by rfl) (hline:(apos.endLine == cpos.line)=true:=by rfl):PE X (.Call (.Attribute o name apos) [] [] cpos) (tBM0 X.K T r to):=by
 intro pins s σ H Q I h
 refine wpAny_Call_method0_late hbase hline (thn (ho pins s σ H _ I h) fun v s1 ⟨x,H1,I1,r1,ty,q1⟩=>?_)
 obtain ⟨h1,h2⟩:=tyV_is I1 r1 ty
 exact ⟨T,id,pa,slot,hty,h1,h2,Calls.callWith_builtin rfl (PySem.evalArgs_none (hm pins s1 σ H1 x [] v [] Q I1 r1 .nil q1))⟩
theorem pe_bm (pa:PlainAttrs T) (slot:Slot T name id) (hty:typeOf (.builtin id)=pure (.type "method_descriptor")) (hm:MtR X id r) (ho:PE X o to) (ha:PA X (e::es) t)
  (hbase:attributeBase o name X.env (eval o X.env)=eval o X.env:=by rfl)
  (hfew:((backTo cpos (starEach (e::es) X.env)).all (fun x=>!x.1) && (backToKw cpos (keywordEach [] X.env)).all (fun x=>x.1.isSome)
   && decide ((e::es).length+([]:List Keyword).length+(if ([]:List Keyword).isEmpty then 0 else 1)<30))=true:=by rfl)
  (hline:(apos.endLine == cpos.line)=true:=by rfl) (hs:starEach (e::es) X.env=(false,eval e X.env)::starEach es X.env:=by rfl) (hplain:(backTo cpos (starEach es X.env)).any (·.1)=false:=by rfl) :
  PE X (.Call (.Attribute o name apos) (e::es) [] cpos) (tBM X.K T r to t):=by
 intro pins s σ H Q I h
 refine wpAny_Call_method_late hbase hfew hline rfl (thn (ho pins s σ H _ I h) fun v s1 ⟨x,H1,I1,r1,ty,q1⟩=>?_)
 obtain ⟨h1,h2⟩:=tyV_is I1 r1 ty
 refine ⟨T,id,pa,slot,hty,h1,h2,?_⟩
 have hA:=ha cpos pins s1 σ H1 _ I1 q1
 rw [hs] at hA ⊢
 refine Calls.callWith_builtin (by show (false || (backTo cpos (starEach es X.env)).any (·.1))=false;rw [hplain]<;>rfl) (Calls.evalArgs_plain ?_)
 exact thn hA fun us s2 ⟨vs,H2,I2,r2,q2⟩=>hm pins s2 σ H2 x vs v us Q I2 r1 r2 q2
/- xs.append(e),list.index on a module's tuple .. are MtR facts of 06m -/
end
def MtM (X:Cx) (id:String) (r:V->List V->Hp->VK->Prop):Prop:=
 ∀(pins:List (Addr × Obj)) (s:Shared) (σ:St) (H:Hp) (x:V) (xs:List V) (v:Value) (us:List Value) (Q:VK),Inv X pins σ H s->RelV x v->Vals xs us->r x xs H Q->
  wpAny (model X.prog X.w) X.A (call (.builtin id) (v::us)) (EP X pins σ Q) X.xe s
theorem Vals.one:∀{x:V} {us:List Value},Vals [x] us->∃u,us=[u]/\RelV x u
 | _,_,.cons r .nil=>⟨_,rfl,r⟩
theorem Vals.zero:∀{us:List Value},Vals [] us->us=[]
 | _,.nil=>rfl
theorem Vals.dropLast {xs:List V} {us:List Value} (h:Vals xs us):Vals xs.dropLast us.dropLast:=by
 induction h with
 | nil=>exact .nil
 | cons r t ih=>
  cases t with
  | nil=>exact .nil
  | cons q t'=>exact .cons r ih
theorem Vals.eraseIdx:∀{xs:List V} {us:List Value} (i:Nat),Vals xs us->Vals (xs.eraseIdx i) (us.eraseIdx i)
 | _,_,_,.nil=>.nil
 | _,_,0,.cons _ t=>t
 | _,_,i+1,.cons r t=>.cons r (Vals.eraseIdx i t)
theorem Vals.reverse {xs:List V} {us:List Value} (h:Vals xs us):Vals xs.reverse us.reverse:=by
 induction h with
 | nil=>exact .nil
 | cons r t ih=>rw [List.reverse_cons,List.reverse_cons];exact Vals.append ih (.cons r .nil)
theorem Vals.rep {xs:List V} {us:List Value} (h:Vals xs us):∀k:Nat,Vals (List.replicate k xs).flatten (List.replicate k us).flatten
 | 0=>.nil
 | k+1=>by
  rw [List.replicate_succ,List.replicate_succ,List.flatten_cons,List.flatten_cons]
  exact Vals.append h (Vals.rep h k)
theorem erase_last {α:Type} (l:List α):l.eraseIdx (l.length - 1)=l.dropLast:=by
 induction l with
 | nil=>rfl
 | cons a r ih=>
  cases r with
  | nil=>rfl
  | cons b r=>
   have e:(a::b::r).length - 1=((b::r).length - 1)+1:=by
    have h1:(a::b::r).length=r.length+2:=rfl
    have h2:(b::r).length=r.length+1:=rfl
    omega
   rw [e,List.eraseIdx_cons_succ,ih]
   all_goals rfl
theorem foldl_rep (its:List Value):∀(k:Nat) (acc:List Value),
  List.foldl (fun x1 x2=>x1++x2) acc.toArray (List.replicate k its.toArray)=(acc++(List.replicate k its).flatten).toArray
 | 0,acc=>by simp
 | k+1,acc=>by
  have e:acc.toArray++its.toArray=(acc++its).toArray:=by simp
  have e2:(acc++its)++(List.replicate k its).flatten=acc++(List.replicate (k+1) its).flatten:=by
   rw [List.replicate_succ,List.flatten_cons,List.append_assoc]
  rw [<-e2,<-foldl_rep its k (acc++its),<-e,List.replicate_succ,List.foldl_cons]
section
variable {X:Cx} {pins:List (Addr × Obj)} {σ:St} {H:Hp} {s:Shared} {l b:Addr} {xs ys zs:List V}
theorem Inv.lset {its its':List Value} {n:Nat} {f:Array Value->Array Value} {t':Nat} (I:Inv X pins σ H s) (hH:H l=some (.lst xs))
  (e:s.heap.get? l=some { cls:=.type "list",data:=.seq its.toArray n }) (hf:f its.toArray=its'.toArray) (hv:Vals ys its') (hz:ys.length<=sizeLine) :
  Inv X pins σ (upd H l (.lst ys)) { s with heap:=s.heap.update l (Obj.mapSeq f),toks:=t' }:=by
 have q:=PySem.IsL.update e f
 rw [hf] at q
 refine I.write (x:=l) (e:=l) (by rw [hH];exact trivial) (.inl rfl) (fun b' u hb hu=>(Heap.get?_update_other s.heap (Obj.mapSeq f) (Ne.symm hb)).trans hu) ⟨_,q⟩ ?_
 exact ⟨hz,its',_,hv,q⟩
theorem Inv.lnew {its:List Value} {t':Nat} (I:Inv X pins σ H s) (hv:Vals ys its) (hz:ys.length<=sizeLine) :
  Inv X pins σ (upd H s.heap.objs.size (.lst ys)) { s with heap:=s.heap.push { cls:=.type "list",data:=.seq its.toArray },toks:=t' }:=
 I.laid (fun _ _ q=>Heap.get?_push_of_some _ q) (Nat.le_refl _) ⟨hz,its,0,hv,Heap.get?_push_size _ rfl⟩
theorem Inv.fresh (I:Inv X pins σ H s):H s.heap.objs.size=none:=I.hok.fresh (Nat.le_refl _)
theorem Inv.lstM (I:Inv X pins σ H s) (hH:H l=some (.lst xs)):xs.length<=sizeLine/\∃(its:List Value) (n:Nat),Vals xs its/\xs.length=its.length/\s.heap.get? l=some { cls:=.type "list",data:=.seq its.toArray n }:=by
 obtain ⟨z,its,n,r,e⟩:=I.hok l _ hH
 exact ⟨z,its,n,r,r.length,e⟩
theorem notLongL {n:Nat} (h:n<=sizeLine):Builtin.List.listTooLong n=false:=by
 unfold Builtin.List.listTooLong
 exact decide_eq_false (by omega)
end
section
variable {X:Cx}
def rAppend:V->List V->Hp->VK->Prop:=fun x vs H Q=>∃l xs y,x=.ref l/\vs=[y]/\H l=some (.lst xs)/\xs.length<sizeLine/\Q .non (upd H l (.lst (xs++[y])))
theorem mt_append:MtM X "list.append" rAppend:=by
 intro pins s σ H x vs v us Q I rx rv h
 obtain ⟨l,xs,y,rfl,rfl,hH,hz,q⟩:=h
 cases rx
 obtain ⟨u,rfl,ru⟩:=rv.one
 obtain ⟨z,its,n,r,hl,e⟩:=I.lstM hH
 refine call_meets F.slot_list_append ⟨_,e,rfl⟩ F.entry_list_append (F.args_list_append_2 _ _) (PySem.list_append l its.toArray n u (by rw [List.size_toArray];omega)) ⟨e,?_⟩
 refine ⟨.non,_,I.lset (its':=its++[u]) hH e (by simp) (r.append (.cons ru .nil)) ?_,rfl,q⟩
 rw [List.length_append,List.length_singleton]
 omega
def rExtend:V->List V->Hp->VK->Prop:=fun x vs H Q=>∃l b xs zs,x=.ref l/\vs=[.ref b]/\H l=some (.lst xs)/\H b=some (.lst zs)/\xs.length+zs.length<=sizeLine/\Q .non (upd H l (.lst (xs++zs)))
theorem mt_extend:MtM X "list.extend" rExtend:=by
 intro pins s σ H x vs v us Q I rx rv h
 obtain ⟨l,b,xs,zs,rfl,rfl,hH,hB,hz,q⟩:=h
 cases rx
 obtain ⟨u,rfl,ru⟩:=rv.one
 cases ru
 obtain ⟨z,its,n,r,hl,e⟩:=I.lstM hH
 obtain ⟨z2,its2,n2,r2,hl2,e2⟩:=I.lstM hB
 have hsz:its.toArray.size+its2.toArray.size<=sizeLine:=by rw [List.size_toArray,List.size_toArray];omega
 have hlong:¬(!its.toArray.isEmpty && Builtin.List.listTooLong (its.toArray.size+its2.toArray.size))=true:=by
  rw [notLongL hsz,Bool.and_false]
  exact Bool.false_ne_true
 refine call_meets F.slot_list_extend ⟨_,e,rfl⟩ F.entry_list_extend (F.args_list_extend_2 _ _)
  (AutoSeq1.list_extend_list_list_0 l its.toArray n b its2.toArray n2 hlong (by rw [List.size_toArray];omega) (by omega)) ⟨e,e2,?_⟩
 refine ⟨.non,_,I.lset (its':=its++its2) hH e (by simp) (r.append r2) ?_,rfl,q⟩
 rw [List.length_append]
 omega
def rPop:V->List V->Hp->VK->Prop:=fun x vs H Q=>∃l xs y,x=.ref l/\vs=[]/\H l=some (.lst xs)/\xs[xs.length - 1]? = some y/\Q y (upd H l (.lst xs.dropLast))
theorem mt_pop:MtM X "list.pop" rPop:=by
 intro pins s σ H x vs v us Q I rx rv h
 obtain ⟨l,xs,y,rfl,rfl,hH,hy,q⟩:=h
 cases rx
 have hus:=rv.zero
 subst hus
 obtain ⟨z,its,n,r,hl,e⟩:=I.lstM hH
 obtain ⟨u,hu,ru⟩:=r.get hy
 have hy':its.toArray[its.toArray.size - 1]? = some u:=by
  show its.toArray[its.length - 1]? = some u
  rw [<-Array.getElem?_toList,<-hl]
  exact hu
 refine call_meets F.slot_list_pop ⟨_,e,rfl⟩ F.entry_list_pop (F.args_list_pop_1 _) (MeetsSeq.list_pop_last l its.toArray n u hy' (by rw [List.size_toArray];omega)) ⟨e,?_⟩
 refine ⟨y,_,I.lset (its':=its.dropLast) hH e ?_ r.dropLast ?_,ru,q⟩
 ·show its.toArray.eraseIdxIfInBounds (its.toArray.size - 1)=its.dropLast.toArray
  rw [List.size_toArray,List.eraseIdxIfInBounds_toArray,erase_last]
 ·rw [List.length_dropLast]
  omega
def rReverse:V->List V->Hp->VK->Prop:=fun x vs H Q=>∃l xs,x=.ref l/\vs=[]/\H l=some (.lst xs)/\Q .non (upd H l (.lst xs.reverse))
theorem mt_reverse:MtM X "list.reverse" rReverse:=by
 intro pins s σ H x vs v us Q I rx rv h
 obtain ⟨l,xs,rfl,rfl,hH,q⟩:=h
 cases rx
 have hus:=rv.zero
 subst hus
 obtain ⟨z,its,n,r,hl,e⟩:=I.lstM hH
 refine call_meets F.slot_list_reverse ⟨_,e,rfl⟩ F.entry_list_reverse (F.args_list_reverse_1 _) (AutoSeq1.list_reverse_list_0 l its.toArray n (by rw [List.size_toArray];omega)) ⟨e,?_⟩
 refine ⟨.non,_,I.lset (its':=its.reverse) hH e (by simp) r.reverse ?_,rfl,q⟩
 rw [List.length_reverse]
 omega
def rCat:R2:=fun x y H Q=>∃l b xs zs,x=.ref l/\y=.ref b/\H l=some (.lst xs)/\H b=some (.lst zs)/\xs.length+zs.length<=sizeLine/\∀p,H p=none->Q (.ref p) (upd H p (.lst (xs++zs)))
theorem op_cat:OpR X (binaryOp .Add) rCat:=by
 intro pins s σ H x y v u Q I rx ry h
 obtain ⟨l,b,xs,zs,rfl,rfl,hH,hB,hz,q⟩:=h
 cases rx
 cases ry
 obtain ⟨z,its,n,r,hl,e⟩:=I.lstM hH
 obtain ⟨z2,its2,n2,r2,hl2,e2⟩:=I.lstM hB
 refine PySem.P.add_list e e2 ?_ (by rw [List.size_toArray,List.size_toArray];omega)
 have ea:its.toArray++its2.toArray=(its++its2).toArray:=by simp
 rw [ea]
 exact ⟨.ref _,_,I.lnew (t':=s.toks) (r.append r2) (by rw [List.length_append];omega),rfl,q _ I.fresh⟩
def rRep:R2:=fun x y H Q=>∃l k xs,x=.ref l/\y=.int k/\H l=some (.lst xs)/\-(2 ^ 63)<=k/\k<2 ^ 63/\xs.length * k.toNat<=sizeLine /\
 ∀p,H p=none->Q (.ref p) (upd H p (.lst (List.replicate k.toNat xs).flatten))
theorem len_rep {α:Type} (xs:List α) (k:Nat):(List.replicate k xs).flatten.length=k * xs.length:=by
 induction k with
 | zero=>simp
 | succ k ih=>rw [List.replicate_succ,List.flatten_cons,List.length_append,ih,Nat.succ_mul,Nat.add_comm]
theorem op_rep:OpR X (binaryOp .Mult) rRep:=by
 intro pins s σ H x y v u Q I rx ry h
 obtain ⟨l,k,xs,rfl,rfl,hH,h1,h2,hz,q⟩:=h
 cases rx
 obtain ⟨t,rfl⟩:=ry
 obtain ⟨z,its,n,r,hl,e⟩:=I.lstM hH
 have hlen:its.toArray.size * k.toNat<=sizeLine:=by rw [List.size_toArray,<-hl];exact hz
 have hcap:¬its.toArray.size * k.toNat > (2 ^ 63 - 1) / 8:=by
  have:(sizeLine:Nat)<=(2 ^ 63 - 1) / 8:=by decide
  omega
 have hfit:¬(!Builtin.List.listFitsIndex k)=true:=by
  rw [fitsIndex_both h1 h2]
  exact Bool.false_ne_true
 have hlong:¬Builtin.List.listTooLong (its.toArray.size * k.toNat)=true:=by
  rw [notLongL hlen]
  exact Bool.false_ne_true
 have hnew:List.foldl (fun x1 x2=>x1++x2) #[] (List.replicate (if its.toArray.isEmpty=true then 0 else k.toNat) its.toArray)=(List.replicate k.toNat its).flatten.toArray:=by
  have f0:∀m:Nat,List.foldl (fun x1 x2=>x1++x2) #[] (List.replicate m its.toArray)=(List.replicate m its).flatten.toArray:=fun m=>by
   have:=foldl_rep its m []
   rw [List.nil_append] at this
   exact this
  rw [f0]
  cases its with
  | nil=>simp
  | cons a r'=>rw [if_neg (by simp)]
 refine wpAny_binaryOp_repeat_ref (T:="list") (U:="int") (by decide) ⟨_,e,rfl⟩ (fun s'=>typeIs_int s' k t) noFill_list_mul F.fills_int_mul F.slot_int_rmul repeat_list F.slot_int_index.lookup
  (call_meets F.slot_int_rmul (typeIs_int s k t) F.entry_int_rmul (F.args_int_rmul_2 _ _) (int___rmul___int_list k t l its.toArray n)
   ⟨e,rfl,⟨_,e,rfl⟩,call_meets F.slot_list_mul ⟨_,e,rfl⟩ F.entry_list_mul (F.args_list_mul_2 _ _) (AutoListH.list___mul___list_int_3 l its.toArray n k t hfit hcap hlong) ⟨e,?_⟩⟩)
 rw [hnew]
 exact ⟨.ref _,_,I.lnew (t':=s.toks) (r.rep k.toNat) (by rw [len_rep,Nat.mul_comm];exact hz),rfl,q _ I.fresh⟩
end
end L2
namespace Att
open PySem PySem.W PySem.Calls PyProof.Rows
theorem ints_of_wellAll {P:Params} {h:Heap}:∀(ns:List Int) (vs:List Value),WellAll P h vs (ns.map WData.int)->IntsAre vs ns:=by
 intro ns
 induction ns with
 | nil=>
  intro vs w
  rw [List.map_nil] at w
  cases w
  exact .nil
 | cons n ns ih=>
  intro vs w
  rw [List.map_cons] at w
  cases w with
  | cons a b=>
   cases a
   exact .cons _ _ (ih _ b)
theorem script_of {l:OpenLaw} {n:Nat} (hn:l.most=some n) {P:Params} {h:Heap} {args:List WData} {vals:List Value}
  (hpre:l.row.toRowW.claim.pre args=true) (hwl:WellAll P h vals args) :
  ∃a vs ns,vals=[Value.ref a]/\args=[WData.list (ns.map WData.int)]/\h.get? a=some { cls:=.type "list",data:=.seq vs.toArray }/\IntsAre vs ns/\ns.length<=n:=by
 have hsh:WShape.hasAll [] args [.list .int]=true:=(pre_splitW hpre).1
 have hc:l.pre.holds [] { args:=args }=true:=(pre_splitW hpre).2
 obtain ⟨d,r,rfl,h1,h2⟩:=hasAllW_cons hsh
 obtain rfl:=hasAllW_nil h2
 obtain ⟨xs,rfl,h3⟩:=hasW_list h1
 obtain ⟨ns,rfl⟩:=items_int h3
 have hlen:ns.length<=n:=by
  unfold OpenLaw.pre at hc
  have h4:(WTm.not (.lt (.lit (.int (n:Int))) (.len (.arg 0)))).holds [] { args:=[.list (ns.map .int)] }=true:=by
   have h4:=(holds_andW hc).1
   rw [hn] at h4
   exact h4
  have h5:=condW_of h4 (w_not (w_lt w_lit (w_len_list (w_arg rfl))))
  rw [List.length_map] at h5
  refine Nat.le_of_not_lt fun q=>?_
  have q':(n:Int)<((ns.length:Nat):Int):=by omega
  first
   | (rw [decide_eq_true q'] at h5;exact absurd h5 (by decide))
   | (simp at h5;omega)
 cases hwl with
 | cons w1 w2=>
  cases w2
  cases w1 with
  | list ho hall=>exact ⟨_,_,ns,rfl,rfl,ho,ints_of_wellAll ns _ hall,hlen⟩
theorem post_true (l:OpenLaw) (args:List WData):l.row.toRowW.claim.post args (.bool true) args=true:=
 postW_of (r:=l.row.toRowW) (X:=(true == true))
  (show WShape.has [] (.bool true) .bool=true by first|rfl|decide|simp [WShape.has,WShape.arms,WShape.armsAll])
  (show (WTm.eq .res (.lit (.bool true))).value [] { args:=args,res:=some (.bool true),after:=args }=some (.bool (true == true)) from w_eq_bool (w_res rfl) w_lit) rfl
theorem attach_call {l:OpenLaw} {n:Nat} {q:Program} {loose:List Str} {XP:(Str->Option Value)->Heap->Prop} {YP:World->Heap->Prop} {d:DefRec}
  (hn:l.most=some n) (hdf:d.params.defaults=[])
  (call:∀(w:World) (s₀ s₁:Shared) (mg mb:Str->Option Value) (fa:Addr) (o:Obj) (pm cd doc:Value) (a:Addr) (vs:List Value) (ns:List Int),
   Ground q loose [] XP w s₀ mg mb s₁.heap->YP w s₁.heap->
   s₁.heap.get? fa=some o->o.data=.func (docDef d.name d.params d.body d.scope pm cd doc)->s₁.heap.CodeRec cd d.name->mg d.name=some (.ref fa)->
   s₁.heap.get? a=some { cls:=.type "list",data:=.seq vs.toArray }->IntsAre vs ns->ns.length<=n->s₁.gens=#[]->
   codeAny (model l.prog w) callerA (.call (.ref fa) ⟨[.ref a],[]⟩) (fun r s'=>r=.ok (.ret (.bool true))/\OldK s₁.heap s'.heap/\s'.os=s₁.os/\AllBare s'.gens) s₁) :
  WalkO q loose XP YP l.row.toRowW d [] (fun f vs=>PySem.call f vs):=by
 intro w s₀ s₁ mg mb G Y fa o pm cd doc dV kV ho hd hcd hD hmg hg args vals as hpre hlay hrd hwl hlo
 obtain rfl:dV=.none:=Dflts.none hD hdf
 obtain rfl:kV=.none:=Dflts.noKw hD
 obtain ⟨a,vs,ns,rfl,rfl,hobj,hints,hlen⟩:=script_of hn hpre hwl
 refine enter_call (codeAny_mono (call w s₀ s₁ mg mb fa o pm cd doc a vs ns G Y ho (fd_plain hd) hcd hmg hobj hints hlen hg) fun r s' hq=>?_)
 obtain ⟨rfl,h2,h3,h4⟩:=hq
 exact ⟨.inl ⟨.bool true,.bool true,[],rfl,fun _=>rfl,.bool true,post_true l _,fun _=>⟨List.Pairwise.nil,fun _ hm=>(nomatch hm)⟩⟩,h2,h3,h4⟩
section
variable {prog:Program} {w:World} {A:Around} {E:Value->Shared->Prop} {s:Shared} {K:Frag}
end
end Att
namespace L2
open PySem PySem.Spec PyProof.Rows
theorem vals_ints:∀{vs:List Value} {ns:List Int},IntsAre vs ns->Vals (ns.map V.int) vs
 | _,_,.nil=>.nil
 | _,_,.cons n t h=>.cons ⟨t,rfl⟩ (vals_ints h)
def Only (H:Hp):Prop:=∀b,H b=none\/∃o xs,H b=some (.frz o (.lst xs))
theorem law_call {P:Program} {w:World} {K:PySem.W.Frag} {mg mb:Str->Option Value} {CX:CXT} {k:Nat} {fa a:Addr} {fd:FuncData} {x:Str} {sp:Sp} {s₁:Shared} {vs:List Value} {ns:List Int}
  (KX:K.In s₁.heap) (hns:s₁.heap.Ns mainGlobals mg) (hb:s₁.heap.Ns builtinsNs mb) (hbb:∀x:Str,x≠"__name__"->mb x=bootBuiltins x) (hlim:s₁.heap.NoLimit) (hg:s₁.gens=#[])
  (ha:s₁.heap.get? a=some { cls:=.type "list",data:=.seq vs.toArray }) (hi:IntsAre vs ns) (hl:ns.length<=sizeLine) (hr:Room k callerA)
  (F:∀base:Heap,K.In base->base.Ns mainGlobals mg->FnOk P w K mg base CX k fa fd [x] sp) (hbind:∀(s:Shared) (u:Value),BindsTo s fd ⟨[u],[]⟩ [(x,u)])
  (hsp:∀H:Hp,Only H->SqL K H a (ns.map V.int)->sp [.ref a] H (fun v _=>v=.bl true) fun _ _ _=>False)
  (hCX:∀H e s',CX [] H s₁ (fun _ _ _=>False) e s'->False) :
  codeAny (model P w) callerA (.call (.ref fa) ⟨[.ref a],[]⟩) (fun r s'=>r=.ok (.ret (.bool true))/\OldK s₁.heap s'.heap/\s'.os=s₁.os/\AllBare s'.gens) s₁:=by
 have rv:=vals_ints hi
 have lenV:=hi.length
 -- from an abstract heap in which nothing but the script may be tracked
 have core:∀H:Hp,Only H->SqL K H a (ns.map V.int)->HOk P w H s₁.heap->(∀b,H b≠none->b=a)->(H a≠none->K.lookup a=none)->
   codeAny (model P w) callerA (.call (.ref fa) ⟨[.ref a],[]⟩) (fun r s'=>r=.ok (.ret (.bool true))/\OldK s₁.heap s'.heap/\s'.os=s₁.os/\AllBare s'.gens) s₁:=by
  intro H hO hS hok hA hK
  have base_of:∀{b:Addr} {o:Obj},s₁.heap.get? b=some o->H b=none->(hidT s₁.heap H).get? b=some o:=fun e n=>hidT_get e n
  have noA:∀{b:Addr} {o:Obj} {es:Array DictEntry} {ep:Nat},s₁.heap.get? b=some o->o.data=.dict es ep->H b=none:=fun {b o es ep} e d=>by
   cases q:H b with
   | none=>rfl
   | some u=>
    have e':b=a:=hA b (by rw [q];simp)
    subst e'
    rw [ha] at e;cases e
    have d':Data.seq vs.toArray _=Data.dict es ep:=d
    cases d'
  have nsK:∀{b:Addr} {m:Str->Option Value},s₁.heap.Ns b m->(hidT s₁.heap H).Ns b m:=fun {b m} ⟨o,es,ep,e,d,r⟩=>⟨o,es,ep,base_of e (noA e d),d,r⟩
  have hKb:K.In (hidT s₁.heap H):=fun b o e=>base_of (KX b o e) (by
   cases q:H b with
   | none=>rfl
   | some u=>
    have e':b=a:=hA b (by rw [q];simp)
    subst e'
    rw [hK (by rw [q];simp)] at e;cases e)
  have hM:Mod K mg (hidT s₁.heap H):=⟨hKb,nsK hns,⟨mb,nsK hb,hbb⟩,let ⟨mc,h1,h2⟩:=hlim;⟨mc,nsK h1,h2⟩⟩
  have e0:Env0 P w K mg (hidT s₁.heap H) callerA [] s₁ H:=⟨rfl,hM,fun b o e=>of_hidT e,Nat.le_of_eq (hidT_size _ _),trivial,fun b hb=>absurd (show b∈([]:List Addr) from hb) (by simp),hok,.of_eq hg⟩
  refine codeAny_mono ((F _ hKb (nsK hns)).run callerA [] s₁ H ⟨[.ref a],[]⟩ [.ref a] [.ref a] _ _ hr e0 (hbind s₁ (.ref a)) (.cons rfl .nil) (hsp H hO hS)) fun r s' h=>?_
  cases r with
  | error e=>exact (hCX H e s' h).elim
  | ok fl=>
   cases fl with
   | next=>exact False.elim h
   | brk=>exact False.elim h
   | cont=>exact False.elim h
   | ret u=>
    obtain ⟨v,H',os,bare,un,hok',r',q⟩:=h
    have q':v=.bl true:=q
    subst q'
    obtain rfl:u=Value.bool true:=r'
    refine ⟨rfl,OldK.of_keep fun b o e=>?_,os,bare⟩
    cases q:H b with
    | none=>exact un.keep b o e q (by intro z;exact absurd (show b∈([]:List Addr) from z) (by simp)) (by simp)
    | some u=>
     rcases hO b with z|⟨ob,xs,z⟩
     ·rw [q] at z;cases z
     ·have z2:=un.frzs b ob _ z
      obtain ⟨e1,_⟩:=hok b _ z
      obtain ⟨e2,_⟩:=hok' b _ z2
      rw [e] at e1;cases e1
      exact e2
 cases hk:K.lookup a with
 | some o=>
  -- the script is one of the module's own objects
  have e:=KX a o hk
  rw [ha] at e
  cases e
  refine core (fun _=>none) (fun _=>.inl rfl) (.inr ⟨_,vs.toArray,_,hk,rfl,rfl,rfl,by rw [List.size_toArray,lenV];exact hl,by simpa using rv⟩) (fun b u z=>by have z':(none:Option HO)=some u:=z;cases z') (fun b z=>absurd rfl z) fun z=>absurd rfl z
 | none=>
  refine core (fun b=>if b=a then some (.frz { cls:=.type "list",data:=.seq vs.toArray } (.lst (ns.map V.int))) else none) (fun b=>?_) (.inl (.inr ⟨{ cls:=.type "list",data:=.seq vs.toArray },if_pos rfl⟩)) (fun b u z=>?_) (fun b z=>?_) fun _=>hk
  ·by_cases hb:b=a
   ·exact .inr ⟨_,_,if_pos hb⟩
   ·exact .inl (if_neg hb)
  ·by_cases hb:b=a
   ·have z':=(if_pos hb).symm.trans z
    cases z'
    subst hb
    exact ⟨ha,by rw [List.length_map];exact hl,vs,_,rv,ha⟩
   ·have z':=(if_neg hb).symm.trans z
    cases z'
  ·by_cases hb:b=a
   ·exact hb
   ·exact absurd (if_neg hb) z
theorem walk_of {l:PySem.W.OpenLaw} {n k:Nat} {q:Program} {loose:List Str} {XP:(Str->Option Value)->Heap->Prop} {YP:World->Heap->Prop} {d:DefRec} {K:Params->PySem.W.Frag} {CX:World->CXT} {sp:World->Sp} {x:Str}
  (hn:l.most=some n) (hn2:n<=sizeLine) (hdf:d.params.defaults=[]) (hr:Room k callerA)
  (hY:∀(w:World) (h:Heap),YP w h->(K w.params).In h)
  (F:∀(w:World) (mg:Str->Option Value) (fa:Addr) (h:Heap),(K w.params).In h->h.Ns mainGlobals mg->mg d.name=some (.ref fa)->
   ∃fd:FuncData,(∀(s:Shared) (u:Value),BindsTo s fd ⟨[u],[]⟩ [(x,u)]) /\
    ∀base:Heap,(K w.params).In base->base.Ns mainGlobals mg->FnOk l.prog w (K w.params) mg base (CX w) k fa fd [x] (sp w))
  (hsp:∀(w:World) (H:Hp) (a:Addr) (ns:List Int),ns.length<=n->Only H->SqL (K w.params) H a (ns.map V.int)->sp w [.ref a] H (fun v _=>v=.bl true) fun _ _ _=>False)
  (hCX:∀(w:World) (H:Hp) (s:Shared) (e:Value) (s':Shared),CX w [] H s (fun _ _ _=>False) e s'->False) :
  PySem.W.WalkO q loose XP YP l.row.toRowW d [] (fun f vs=>PySem.call f vs):=by
 refine Att.attach_call hn hdf fun w s₀ s₁ mg mb fa o pm cd doc a vs ns G Y ho hd hcd hmg hobj hints hlen hg=>?_
 have KX:=hY w _ Y
 obtain ⟨fd,hb,hF⟩:=F w mg fa _ KX G.T.g hmg
 exact law_call KX G.T.g G.T.b G.T.builtins G.T.nolimit hg hobj hints (Nat.le_trans hlen hn2) hr hF hb (fun H hO hS=>hsp w H a ns hlen hO hS) fun H e s'=>hCX w H s₁ e s'
end L2
/- THE LAST THEOREM (shape;LID,My.* are yours):
  My.Adr: a structure of the addresses that your layer names (classes,functions);My.Txt K t: a structure (Prop) of the equations over K;
  My.txt_mk:{K} {implicit addresses ..} (e1:nsIn K mainGlobals "law"=some (some (.ref f))) (e2:K.lookup f=some ⟨oc,od,.func (fnOf "law" "law" params body scope dV kV doc pm an cdv ct),sl⟩) (e3:codeIn K cdv "law"=true) ..:∃t,My.Txt K t
set_option maxRecDepth 100000 in
set_option maxHeartbeats 0 in
theorem PySem.Challenge.cw_LID_holds : PySem.Challenge.rw_LID.Holds := by
 w_on;o_law;k_head;(case hw=>w_witness2)
 k_fill
 refine L2.walk_of (l:=PySem.Challenge.rw_LID) (n:=63) (k:=40) (x:="script") (CX:=fun w=>..) (sp:=fun _=>My.sp_law) rfl (by decide) rfl ⟨rfl,by decide,by decide⟩ (fun w h Y=>PySem.W.kIn_of Y) ?F ?S ?C
 case F=>
  intro w mg fa h KX G hmg
  have T:∃t,My.Txt (L2.KOf KX) t:=by
   dsimp only [L2.KOf]                          -- K must stand as «<heap const> w.params» for k_is
   refine' My.txt_mk ?e1 ?e2 ?e3 ..
   (case e1=>PySem.W.k_is)                    -- in the order: a name -> its address -> its object -> its parts
   (case e2=>PySem.W.k_is)
   ..
  obtain ⟨t,T⟩:=T
  have e0:=hmg.symm.trans (PySem.W.mg_of KX G T.law)
  cases e0                                       -- fa is the law's own address
  exact ⟨_,fun s u=>.of_eq rfl,fun base kb nb=>My.law_fn T kb nb⟩     -- if «.of_eq rfl» comes too early: refine' ⟨_,?b,fun base kb nb=>My.law_fn T kb nb⟩;exact fun s u=>.of_eq rfl
 case S=>exact fun w H a ns hl hO hS=>..
 case C=>exact ..
(the tactic k_is has no namespace: write k_is) -/
namespace L2
open PySem PySem.Spec PyProof.Rows
def defArgs (s:Stmt):Arguments:=match s with
 | .FunctionDef _ a _ _ _ _ _ _ _ _=>a
 | _=>{ posonlyargs:=[],args:=[],vararg:=none,kwonlyargs:=[],kw_defaults:=[],kwarg:=none,defaults:=[] }
def defBody (s:Stmt):List Stmt:=match s with
 | .FunctionDef _ _ b _ _ _ _ _ _ _=>b
 | _=>[]
def defScope (s:Stmt):Scope:=match s with
 | .FunctionDef _ _ _ _ _ _ sc _ _ _=>sc
 | _=>{ kind:=.function,names:=[],isGenerator:=false,isCoroutine:=false }
abbrev CX0:CXT:=fun _ _ _ _ _ _=>False
abbrev E0:XK:=fun _ _ _=>False
theorem pass0 {X:Cx}:Passes CX0 X E0:=fun _ _ _ _ _ _ _ h=>h.elim
structure Fun (K:PySem.W.Frag) (x qual:Str) (st:Stmt) (f:Addr) (fd:FuncData):Prop where
 ex:∃(oc:Value) (od:Option Addr) (kV doc pm:Value) (an:Option Addr) (cdv ct:Value) (osl:Array (Option Value)),
  fd=PySem.W.fnOf x qual (defArgs st) (defBody st) (defScope st) .none kV doc pm an cdv ct/\K.lookup f=some ⟨oc,od,.func fd,osl⟩/\PySem.W.codeIn K cdv qual=true
 kp:PySem.W.keepIn K (.ref f)=true
section
variable {P:Program} {w:World} {K:PySem.W.Frag} {mg:Str->Option Value} {base:Heap}
theorem Fun.ok {x qual:Str} {st:Stmt} {f:Addr} {fd:FuncData} {N ps:List Str} {k:Nat} {sp:Sp} (F:Fun K x qual st f fd) (S:FnScope N ps (defScope st)) (len:∀vs H Q E,sp vs H Q E->vs.length=ps.length)
  (hbody:∀(cdv:Value) (A:Around) (outer:List Env) (s:Shared) (H:Hp) (vs:List V) (Q:VK) (E:XK),Room k (A.deeper (envOfC qual (defScope st) s.heap.objs.size f cdv))->sp vs H Q E->
   ∃t,PSs (cxOf CX0 P w K mg base N qual (defScope st) f cdv A outer s H E).nox (defBody st) t/\t { nx:=fun _ H'=>Q .non H',rt:=Q } (start N vs) H):FnOk P w K mg base CX0 (k+1) f fd ps sp:=by
 obtain ⟨oc,od,kV,doc,pm,an,cdv,ct,osl,rfl,lk,hcd⟩:=F.ex
 refine fn_of lk hcd S len fun A outer s H vs Q E hr hsp=>?_
 obtain ⟨t,h,q⟩:=hbody cdv A outer s H vs Q E hr hsp
 exact ⟨t,h.nox,q⟩
theorem Fun.binds {x qual:Str} {st:Stmt} {f:Addr} {fd:FuncData} {ps:List Str} (F:Fun K x qual st f fd)
  (h:∀(kV doc pm:Value) (an:Option Addr) (cdv ct:Value) (us:List Value),us.length=ps.length->bindArgs (PySem.W.fnOf x qual (defArgs st) (defBody st) (defScope st) .none kV doc pm an cdv ct) ⟨us,[]⟩=pure (ps.zip us)):Binds K fd ps []:=by
 obtain ⟨oc,od,kV,doc,pm,an,cdv,ct,osl,rfl,lk,hcd⟩:=F.ex
 exact .all (h kV doc pm an cdv ct)
theorem fun_mk {x qual:Str} {st:Stmt} {f:Addr} {oc:Value} {od an:Option Addr} {osl:Array (Option Value)} {kV doc pm cdv ct:Value} (l:K.lookup f=some ⟨oc,od,.func (PySem.W.fnOf x qual (defArgs st) (defBody st) (defScope st) .none kV doc pm an cdv ct),osl⟩)
  (c:PySem.W.codeIn K cdv qual=true) (k:PySem.W.keepIn K (.ref f)=true):Fun K x qual st f (PySem.W.fnOf x qual (defArgs st) (defBody st) (defScope st) .none kV doc pm an cdv ct):=⟨⟨oc,od,kV,doc,pm,an,cdv,ct,osl,rfl,l,c⟩,k⟩
end
section
variable {X:Cx}
theorem pv (i:Nat) {x:Str} {pos:Pos} (hN:X.N[i]? = some x:=by rfl) (hv:Vis X.env.scope x:=by first|exact Or.inl rfl|exact Or.inr (Or.inl rfl)|exact Or.inr (Or.inr rfl)) (hd:(x == ("__debug__":Str))=false:=by decide)
  (hcd:(x == ("__classdict__":Str))=false:=by decide):PE X (.Name x pos) (tVar i):=pe_var hN hv hd hcd
end
theorem ite2 {c A B:Prop} [Decidable c] (h1:c->A) (h2:¬c->B):if c then A else B:=by
 by_cases h:c
 ·rw [if_pos h]
  exact h1 h
 ·rw [if_neg h]
  exact h2 h
def Same (H H':Hp):Prop:=∀b o,H b=some o->H' b=some o
theorem Same.refl (H:Hp):Same H H:=fun _ _ h=>h
theorem Same.trans {H H1 H2:Hp} (a:Same H H1) (b:Same H1 H2):Same H H2:=fun c o h=>b c o (a c o h)
theorem Same.free {H H':Hp} (e:Same H H') {l:Addr} (h:H' l=Option.none):H l=Option.none:=by
 cases q:H l with
 | none=>rfl
 | some o=>
  rw [e l o q] at h
  cases h
theorem Same.seq {K:PySem.W.Frag} {H H':Hp} {a:Addr} {xs:List V} (e:Same H H') (h:SqL K H a xs):SqL K H' a xs:=by
 rcases h with (h|⟨o,h⟩)|h
 ·exact .inl (.inl (e _ _ h))
 ·exact .inl (.inr ⟨o,e _ _ h⟩)
 ·exact .inr h
end L2
set_option maxHeartbeats 4000000
namespace L2
open PySem PySem.Spec PyProof.Rows
def closL (cells:List (Str × Addr)):List (Str × NameKind)->List (Str × Addr)->List (Str × Addr)
 | [],cs=>cs
 | (n,k)::r,cs=>closL cells r (if k == .free then (match cells.lookup n with|some c=>(n,c)::cs|none=>cs) else cs)
theorem closureFor_eq {scope : Scope} {env : Env} (h : ∀ x ∈ scope.names, x.2 = .free → (env.cells.lookup x.1).isSome = true) :
    closureFor scope env = pure (closL env.cells scope.names []) := by
  have all : ∀ (names : List (Str × NameKind)) (cs : List (Str × Addr)), (∀ x ∈ names, x.2 = .free → (env.cells.lookup x.1).isSome = true) →
      (do let mut ds := cs
          for (name, kind) in names do
            if kind == .free then ds := (name, ← cellOf env name) :: ds
          return ds : Sem (List (Str × Addr))) = pure (closL env.cells names cs) := by
    intro names
    induction names with
    | nil => intro cs _; rfl
    | cons y r ih =>
      intro cs hn
      obtain ⟨n, k⟩ := y
      have hr := fun x hx => hn x (List.mem_cons_of_mem _ hx)
      simp only [List.forIn_cons]
      cases hk : k == NameKind.free with
      | false =>
        have e : closL env.cells ((n, k) :: r) cs = closL env.cells r cs := by
          show closL env.cells r (if k == .free then _ else cs) = _
          rw [hk]; rfl
        rw [e, ← ih cs hr]
        simp
      | true =>
        have hk' : k = .free := by simpa using hk
        have hs := hn (n, k) List.mem_cons_self hk'
        obtain ⟨c, hc⟩ := Option.isSome_iff_exists.mp hs
        have e : closL env.cells ((n, k) :: r) cs = closL env.cells r ((n, c) :: cs) := by
          show closL env.cells r (if k == .free then (match env.cells.lookup n with | some c => (n, c) :: cs | none => cs) else cs) = _
          rw [hk, hc]; rfl
        rw [e, ← ih ((n, c) :: cs) hr]
        simp [cellOf, hc]
  have q := all scope.names [] h
  unfold closureFor
  exact q
theorem closL_sub {cells:List (Str × Addr)}:∀{names:List (Str × NameKind)} {cs:List (Str × Addr)} {x:Str} {c:Addr},(closL cells names cs).lookup x=some c->
  cs.lookup x=some c\/cells.lookup x=some c
 | [],_,_,_,h=>.inl h
 | (n,k)::r,cs,x,c,h=>by
  have q:=closL_sub (names:=r) (x:=x) (c:=c) h
  rcases q with q|q
  ·cases hk:k == NameKind.free with
   | false=>rw [hk] at q;exact .inl q
   | true=>
    rw [hk] at q
    cases hc:cells.lookup n with
    | none=>rw [hc] at q;exact .inl q
    | some d=>
     rw [hc] at q
     simp only [if_true,List.lookup_cons] at q
     cases hx:x == n with
     | true=>
      rw [hx] at q
      have e:x=n:=by simpa using hx
      subst e
      rw [hc];exact .inr q
     | false=>rw [hx] at q;exact .inl q
  ·exact .inr q
theorem closL_keep {cells:List (Str × Addr)}:∀{names:List (Str × NameKind)} {cs:List (Str × Addr)} {x:Str} {c:Addr},cs.lookup x=some c->∃d,(closL cells names cs).lookup x=some d
 | [],_,_,c,h=>⟨c,h⟩
 | (n,k)::r,cs,x,c,h=>by
  show ∃d,(closL cells r _).lookup x=some d
  have more:∃d,(if k == NameKind.free then (match cells.lookup n with|some c=>(n,c)::cs|none=>cs) else cs).lookup x=some d:=by
   cases hk:k == NameKind.free with
   | false=>exact ⟨c,h⟩
   | true=>
    cases hc:cells.lookup n with
    | none=>exact ⟨c,h⟩
    | some d=>
     simp only [if_true,List.lookup_cons]
     cases hx:x == n with
     | true=>exact ⟨d,rfl⟩
     | false=>exact ⟨c,h⟩
  obtain ⟨d,hd⟩:=more
  exact closL_keep hd
theorem closL_has {cells:List (Str × Addr)}:∀{names:List (Str × NameKind)} {cs:List (Str × Addr)} {x:Str},(x,NameKind.free)∈names->(cells.lookup x).isSome=true->∃d,(closL cells names cs).lookup x=some d
 | (n,k)::r,cs,x,hm,hs=>by
  rcases List.mem_cons.mp hm with e|hm
  ·cases e
   obtain ⟨c,hc⟩:=Option.isSome_iff_exists.mp hs
   show ∃d,(closL cells r _).lookup _=some d
   refine closL_keep (c:=c) ?_
   simp [hc]
  ·exact closL_has (names:=r) hm hs
def cxComp (X:Cx) (scope:Scope) (N:List Str) (C:Addr) (s:Shared) (H:Hp) (fp:List Addr):Cx where
 prog:=X.prog
 w:=X.w
 K:=X.K
 mg:=X.mg
 base:=X.base
 A:=X.A
 N:=N
 s₀:=s
 H₀:=H
 env:=compEnvC scope (closL X.env.cells scope.names []) C X.env
 outer:=X.stack
 stack:=X.stack
 ex:=fp
 calm:=true
 fn:=fun _=>false
 pn:=[]
 xe:=fun _ _=>False
structure CompScope (X:Cx) (scope:Scope) (N:List Str) (k:Nat):Prop where
 kind:scope.kind=.function
 nocell:∀y∈scope.names,y.2≠.cell
 nd:N.Nodup
 len:N.length=k+X.N.length
 loc:∀x∈scope.names,x.2=.local->scope.names.lookup x.1=some .local
 free:∀x∈scope.names,x.2=.free->X.env.kindOf x.1=some .cell\/X.env.kindOf x.1=some .free
 own:∀i x,i<k->N[i]? = some x->scope.names.lookup x=some .local
 out:∀i x,N[k+i]? = some x->(scope.names.lookup x).isSome=true->X.N[i]? = some x/\scope.names.lookup x=some .free\/scope.names.lookup x=some .globalImplicit
def tYes:TT:=fun _ H k=>k true H
def tComp (k:Nat) (wi:TI) (g:TG) (tt:TT) (te:TE):TE:=fun σ H Q=>wi σ H fun J H1=>∃W:Nat->Nat->List V->St->Hp->Prop,(∃m,W 0 m [] (List.replicate k none++σ) H1) /\
 ∀i m ys σ1 H',W i m ys σ1 H'->
  (J.stop i H'/\∀D,H' D=none->Q (.ref D) (upd H' D (.lst ys))) \/
  (J.go i H'/\ys.length<sizeLine/\∃N:List V->St->Hp->Prop,(∀zs σ' H'',N zs σ' H''->∃m',m'<m/\W (i+1) m' zs σ' H'') /\
   ∀x H2,J.yld i H' x H2->g x σ1 H2 fun σ2 H3=>tt σ2 H3 fun b H4=>if b=true then te σ2 H4 fun y H5=>N (ys++[y]) σ2 H5 else N ys σ2 H4)
theorem lookup_relabel {env:Env}:∀{names:List (Str × NameKind)} {x:Str} {k:NameKind},names.lookup x=some k->
  (names.map fun (n,k)=>if (k == NameKind.free && env.scope.kind == .function && env.kindOf n == some .cell) then (n,NameKind.cell) else (n,k)).lookup x
   = some (if (k == NameKind.free && env.scope.kind == .function && env.kindOf x == some .cell) then NameKind.cell else k)
 | [],_,_,h=>by simp at h
 | (n,k)::r,x,k',h=>by
  have ih:=@lookup_relabel env r x k'
  show List.lookup x ((if (k == NameKind.free && env.scope.kind == .function && env.kindOf n == some .cell)=true then (n,NameKind.cell) else (n,k))::_)=_
  cases hx:x == n with
  | true=>
   simp only [List.lookup_cons,hx] at h
   cases h
   have e:x=n:=by simpa using hx
   subst e
   by_cases hc:(k == NameKind.free && env.scope.kind == .function && env.kindOf x == some .cell)=true
   ·rw [if_pos hc,if_pos hc];simp [List.lookup_cons]
   ·rw [if_neg hc,if_neg hc];simp [List.lookup_cons]
  | false=>
   simp only [List.lookup_cons,hx] at h
   by_cases hc:(k == NameKind.free && env.scope.kind == .function && env.kindOf n == some .cell)=true
   ·rw [if_pos hc];simp only [List.lookup_cons,hx];exact ih h
   ·rw [if_neg hc];simp only [List.lookup_cons,hx];exact ih h
theorem lookup_relabel_none {env:Env}:∀{names:List (Str × NameKind)} {x:Str},names.lookup x=none->
  (names.map fun (n,k)=>if (k == NameKind.free && env.scope.kind == .function && env.kindOf n == some .cell) then (n,NameKind.cell) else (n,k)).lookup x=none
 | [],_,_=>rfl
 | (n,k)::r,x,h=>by
  have ih:=@lookup_relabel_none env r x
  show List.lookup x ((if (k == NameKind.free && env.scope.kind == .function && env.kindOf n == some .cell)=true then (n,NameKind.cell) else (n,k))::_)=_
  cases hx:x == n with
  | true=>
   simp only [List.lookup_cons,hx] at h
   cases h
  | false=>
   simp only [List.lookup_cons,hx] at h
   by_cases hc:(k == NameKind.free && env.scope.kind == .function && env.kindOf n == some .cell)=true
   ·rw [if_pos hc];simp only [List.lookup_cons,hx];exact ih h
   ·rw [if_neg hc];simp only [List.lookup_cons,hx];exact ih h
def PTs (X:Cx) (ifs:List Expr) (t:TT):Prop:=
 ∀(pins:List (Addr × Obj)) (s:Shared) (σ:St) (H:Hp) (Q:Bool->Hp->Prop),Inv X pins σ H s->t σ H Q->
  wpAny (model X.prog X.w) X.A (forIn ifs true fun c r=>if r=true then do let ok <-isTrue c X.env (eval c X.env);pure (ForInStep.yield ok) else pure (ForInStep.yield r)) (TP X pins σ Q) X.xe s
theorem pts_nil {X:Cx}:PTs X [] tYes:=fun _ _ _ H _ I h=>wpAny_tests_nil ⟨H,I,h⟩
theorem pts_one {X:Cx} {c:Expr} {t:TT} (h:PT X c t):PTs X [c] t:=fun pins s σ H Q I hq=>wpAny_tests_one (h pins s σ H Q I hq)
section
variable {X:Cx} {scope:Scope} {N:List Str} {k:Nat} {pins:List (Addr × Obj)} {σ:St} {H:Hp} {s:Shared} {fp:List Addr}
theorem comp_start {h:Heap} {D:Addr} {C:Addr} {oD:Obj} {t':Nat} (S:CompScope X scope N k) (hc:X.calm=true) (I:Inv X pins σ H s) (hf:∀b∈fp,FpOk X pins H b) (ho:∀b∈fp,∃o,s.heap.get? b=some o/\∀v,o.data≠.cell v)
  (hC:s.heap.objs.size<C) (hD:D=s.heap.objs.size) (keep:∀b o,s.heap.get? b=some o->h.get? b=some o) (hDo:h.get? D=some oD) (hDc:∀v,oD.data≠.cell v) (hn:h.Ns C (fun _=>none)) :
  Inv (cxComp X scope N C s H fp) [(D,oD)] (List.replicate k none++σ) H { s with heap:=h,toks:=t' }:=by
 have fpLt:∀b∈fp,b<s.heap.objs.size:=fun b hb=>by obtain ⟨o,e,_⟩:=ho b hb;exact Heap.lt_size e
 have sub:∀x c,(closL X.env.cells scope.names []).lookup x=some c->X.env.cells.lookup x=some c:=fun x c e=>by
  rcases closL_sub e with z|z
  ·simp at z
  ·exact z
 have cellLt:∀x c,X.env.cells.lookup x=some c->c<s.heap.objs.size:=fun x c e=>by
  obtain ⟨v,q⟩:=I.cell x c e
  exact q.lt
 have cellK:∀c v,s.heap.IsCell c v->h.IsCell c v:=fun c v ⟨o,e,d⟩=>⟨o,keep c o e,d⟩
 refine ⟨⟨I.ok.mod,S.kind,?_,?_,Nat.le_of_lt hC,fun x y c h1 h2=>I.ok.inj x y c (sub x c h1) (sub y c h2),fun x hx=>?_,fun x c z=>absurd (show false=true from z) Bool.false_ne_true,fun _=>I.ok.hd hc,I.ok.frames,.inl rfl,fun b hb=>⟨Nat.ne_of_lt (Nat.lt_trans (fpLt b hb) hC),fun x c e=>(hf b hb).2.2.2.2.1 x c (sub x c e)⟩,
   I.bs,Nat.le_trans I.ok.bsz I.sz,fun b o e hb=>?_,fun b hb z=>?_,I.stack,I.stkFree⟩,rfl,I.bare,Un.kept keep,⟨_,hn,fun i x v e1 e2 e3=>?_⟩,fun x c e=>?_,I.hok.fresh (Nat.le_of_lt hC),fun x c e=>I.freeC x c (sub x c e),fun p hp=>?_,I.hok.kept keep,?_⟩
 ·exact I.ok.glob
 ·exact I.ok.blt
 ·-- every captured name has its cell
  have hx':(relabel scope X.env).names.lookup x=some .cell\/(relabel scope X.env).names.lookup x=some .free:=hx
  cases hl:scope.names.lookup x with
  | none=>
   have q:=lookup_relabel_none (env:=X.env) hl
   unfold relabel at hx'
   rcases hx' with z|z<;>(rw [q] at z;cases z)
  | some kd=>
   have q:=lookup_relabel (env:=X.env) hl
   have hm:=PySem.mem_of_lookup hl
   have hfr:kd=.free:=by
    by_cases z:kd=.free
    ·exact z
    ·unfold relabel at hx'
     have z':(kd == NameKind.free)=false:=by simpa using z
     rw [z'] at q
     simp only [Bool.false_and,Bool.false_eq_true,if_false] at q
     rcases hx' with y|y
     ·rw [q] at y
      have y':kd=.cell:=Option.some.inj y
      exact absurd y' (S.nocell _ hm)
     ·rw [q] at y;exact absurd (Option.some.inj y) z
   subst hfr
   obtain ⟨c,hc'⟩:=I.ok.has x (S.free _ hm rfl)
   exact closL_has hm (by rw [hc'];rfl)
 ·-- the base's records are no iterator's
  obtain ⟨_,_,_,z,_⟩:=hf b hb
  rcases z with z|z
  ·exact I.ok.noex b o e z
  ·exact absurd (Nat.lt_of_lt_of_le (Heap.lt_size e) (Nat.le_trans I.ok.bsz z)) (Nat.lt_irrefl _)
 ·obtain ⟨_,z1,z2,_⟩:=hf b hb
  rcases List.mem_cons.mp (I.stkSub b z) with y|y
  ·exact z1 y
  ·exact z2 y
 ·-- the names
  have e1':N[i]? = some x:=e1
  by_cases hi:i<k
  ·rw [List.getElem?_append_left (by simpa using hi),List.getElem?_replicate,if_pos hi] at e2
   cases e2
  ·obtain ⟨j,rfl⟩:∃j,i=k+j:=⟨i - k,by omega⟩
   rw [List.getElem?_append_right (by simp),List.length_replicate,Nat.add_sub_cancel_left] at e2
   have e3':(relabel scope X.env).names.lookup x=some .local\/(relabel scope X.env).names.lookup x=some .cell\/(relabel scope X.env).names.lookup x=some .free:=e3
   cases hl:scope.names.lookup x with
   | none=>
    have q:=lookup_relabel_none (env:=X.env) hl
    unfold relabel at e3'
    rcases e3' with z|z|z<;>(rw [q] at z;cases z)
   | some kd=>
    have q:=lookup_relabel (env:=X.env) hl
    rcases S.out j x e1' (by rw [hl];rfl) with ⟨o1,o2⟩|o
    ·rw [hl] at o2;cases o2
     have hm:=PySem.mem_of_lookup hl
     have hv:Vis X.env.scope x:=by
      rcases S.free _ hm rfl with z|z
      ·exact .inr (.inl z)
      ·exact .inr (.inr z)
     obtain ⟨m,hns,hlk⟩:=I.loc
     obtain ⟨u,r,l⟩:=hlk j x v o1 e2 hv
     refine ⟨u,r,.inr ⟨?_,?_⟩⟩
     ·show (relabel scope X.env).names.lookup x=some .cell\/(relabel scope X.env).names.lookup x=some .free
      unfold relabel
      rw [q]
      split
      ·exact .inl rfl
      ·exact .inr rfl
     ·rcases l with ⟨z,_⟩|⟨_,c,e,z⟩
      ·rcases S.free _ hm rfl with y|y<;>(rw [show X.env.kindOf x=some NameKind.local from z] at y;cases y)
      ·obtain ⟨d,hd⟩:=closL_has (cs:=[]) hm (by rw [e];rfl)
       have hd':=sub x d hd
       rw [e] at hd';cases hd'
       exact ⟨c,hd,cellK _ _ z⟩
    ·rw [hl] at o;cases o
     simp only [show (NameKind.globalImplicit == NameKind.free)=false from rfl,Bool.false_and,Bool.false_eq_true,if_false] at q
     unfold relabel at e3'
     rcases e3' with z|z|z<;>(rw [q] at z;cases z)
 ·obtain ⟨v,q⟩:=I.cell x c (sub x c e)
  exact ⟨v,cellK _ _ q⟩
 ·have e:p=(D,oD):=by
   have hp':p∈([]:List (Addr × Obj))++[(D,oD)]:=hp
   simpa using hp'
  subst e
  refine ⟨hDo,I.hok.fresh (by rw [hD];exact Nat.le_refl _),?_,fun z=>?_,hDc⟩
  ·show D≠C
   rw [hD];exact Nat.ne_of_lt hC
  ·have:=I.stkSub D z
   rcases List.mem_cons.mp this with y|y
   ·rw [hD] at y;exact absurd I.lt (by rw [<-y];exact Nat.lt_irrefl _)
   ·exact I.nofs (by rw [hD];exact Nat.le_refl _) y
 ·show (List.replicate k none++σ).length=N.length
  rw [List.length_append,List.length_replicate,S.len,I.len]
end
section
variable {X:Cx} {scope:Scope} {N:List Str} {k:Nat} {pins:List (Addr × Obj)} {σ:St} {H:Hp} {s:Shared} {fp:List Addr}
theorem comp_end {h':Heap} {D C:Addr} {σ1:St} {H1:Hp} {s1:Shared} {ys:List V} {its:List Value} {n:Nat} (I:Inv X pins σ H s) (hf:∀b∈fp,FpOk X pins H b)
  (hC:s.heap.objs.size<C) (hD:D=s.heap.objs.size)
  (J:Inv (cxComp X scope N C s H fp) [(D,{ cls:=.type "list",data:=.seq its.toArray n })] σ1 H1 s1) (rv:Vals ys its) (hz:ys.length<=sizeLine) (sb:Heap.SameBut C s1.heap h') :
  Inv X pins σ (upd H1 D (.lst ys)) { s1 with heap:=h' }:=by
 obtain ⟨eD,nD,neC,_,_⟩:=J.pin (D,{ cls:=.type "list",data:=.seq its.toArray n }) (by simp)
 have neC':D≠C:=neC
 have nC:H1 C=none:=J.free
 have B:Un (frs X.stack) fp H H1 s.heap s1.heap:=J.base
 have lt:∀{b:Addr} {o:Obj},s.heap.get? b=some o->b≠C/\b≠D:=fun {b o} e=>⟨Nat.ne_of_lt (Nat.lt_trans (Heap.lt_size e) hC),by rw [hD];exact Nat.ne_of_lt (Heap.lt_size e)⟩
 refine I.call' (s':={ s1 with heap:=h' }) (ch:=fp) (show s1.os=s.os from J.os) ?_ ?_ J.bare fun b hb=>?_
 ·refine ⟨fun b o q n hb hx=>(sb.2 b (lt q).1).trans (B.keep b o q n hb hx),fun b o q n hb hx=>?_,fun b o q n hx=>?_,fun b o q hx=>?_,fun b xs q=>?_,fun b o xs q=>?_,fun b ps q=>?_⟩
  ·obtain ⟨sl,e⟩:=B.slot b o q n hb hx
   exact ⟨sl,(sb.2 b (lt q).1).trans e⟩
  ·rw [upd_ne (lt q).2];exact B.free b o q n hx
  ·obtain ⟨o',e⟩:=B.there b o q hx
   exact ⟨o',(sb.2 b (lt q).1).trans e⟩
  ·have e:=B.tups b xs q
   rw [upd_ne (ne_of_none e nD)];exact e
  ·have e:=B.frzs b o xs q
   rw [upd_ne (ne_of_none e nD)];exact e
  ·obtain ⟨m,e⟩:=B.tbls b ps q
   exact ⟨m,by rw [upd_ne (ne_of_none e nD)];exact e⟩
 ·intro a o e
  by_cases ha:a=D
  ·subst ha
   rw [upd_same] at e;cases e
   exact ⟨hz,its,n,rv,(sb.2 _ neC').trans eD⟩
  ·rw [upd_ne ha] at e
   refine (J.hok a o e).stay (fun b u hb q=>(sb.2 b ?_).trans q) (fun b q=>?_) fun b xs q=>?_
   ·rcases hb with rfl|hb
    ·exact ne_of_none e nC
    ·exact ne_of_none hb nC
   ·rw [upd_ne (ne_of_none q nD)];exact q
   ·rw [upd_ne (ne_of_none q nD)];exact q
 ·obtain ⟨_,z1,z2,z3,z4,z5⟩:=hf b hb
  exact ⟨z3,z1,z4,z5⟩
theorem codeAny_compLoop_gen {prog:Program} {w:World} {A:Around} {elt target iter:Expr} {ifs:List Expr} {scope:Scope} {pos:Pos} {it acc:Value} {env:Env} {R:Result->Shared->Prop} {s:Shared} (I:Nat->Shared->Prop)
  (turn:∀n s,I n s->wpAny (model prog w) A (pyNext it) (fun r s₁=>match r with
   | none=>R (.ok .next) s₁
   | some v=>wpAny (model prog w) A (letOwnedTupleGo target it v) (fun _ s₁'=>wpAny (model prog w) A (assign target env v) (fun _ s₂=>
     wpAny (model prog w) A (forIn ifs true fun c r=>if r=true then do let ok <-isTrue c env (eval c env);pure (ForInStep.yield ok) else pure (ForInStep.yield r)) (fun ok s₃=>
      if ok=true then wpAny (model prog w) A (eval elt env) (fun x s₄=>
       wpAny (model prog w) A (call (.builtin "list.append") [acc,x]) (fun _ s₅=>∃m,m<n/\I m s₅) (fun _ _=>False) s₄) (fun _ _=>False) s₃
      else ∃m,m<n/\I m s₃) (fun _ _=>False) s₂) (fun _ _=>False) s₁') (fun _ _=>False) s₁) (fun _ _=>False) s)
  (n:Nat) (h:I n s):codeAny (model prog w) A (.compLoop (.ListComp elt [⟨target,iter,ifs,0⟩] scope pos) 0 it acc env) R s:=by
 refine codeAny_loop rfl I (fun n s hI=>?_) n h
 show wpAny _ A ((compTurn (.ListComp elt [⟨target,iter,ifs,0⟩] scope pos) 0 it acc env).onRaise (fun x=>do noteFrame x env;theTreesLotGoes x)) _ _ s
 refine wpAny_noted ?_
 rw [compTurn_list]
 refine wpAny_bind (wpAny_standAt (wpAny_bind (wpAny_mono (turn n s hI) (fun r s₁ h₁=>?_) fun _ _ h'=>h'.elim)))
 cases r with
 | none=>exact wpAny_pure h₁
 | some v=>
  refine wpAny_bind (wpAny_mono h₁ (fun _ s₁' h₁'=>?_) fun _ _ h'=>h'.elim)
  refine wpAny_bind (wpAny_mono h₁' (fun _ s₂ h₂=>wpAny_bind (wpAny_mono h₂ (fun ok s₃ h₃=>?_) fun _ _ h'=>h'.elim)) fun _ _ h'=>h'.elim)
  cases ok with
  | false=>exact wpAny_pure ⟨rfl,h₃⟩
  | true=>
   exact wpAny_bind (wpAny_bind (wpAny_mono h₃ (fun x s₄ h₄=>wpAny_bind (wpAny_mono h₄ (fun _ s₅ h₅=>wpAny_pure (wpAny_pure ⟨rfl,h₅⟩)) fun _ _ h'=>h'.elim)) fun _ _ h'=>h'.elim))
theorem comp_run {elt iter tg:Expr} {ifs:List Expr} {pos fpos:Pos} {wi:TI} {g:TG} {tt:TT} {te:TE} {use:Option (Value->Sem Unit)} {Qc:Value->Shared->Prop} {Q:VK} (S:CompScope X scope N k) (hc:X.calm=true) (hi:PI X tg iter wi)
  (hg:∀C s H fp,PG (cxComp X scope N C s H fp) tg g) (ht:∀C s H fp,PTs (cxComp X scope N C s H fp) ifs tt) (he:∀C s H fp,PE (cxComp X scope N C s H fp) elt te)
  (hs:∀x,foldedSetIterable iter X.env x=pure x) (I:Inv X pins σ H s) (h:tComp k wi g tt te σ H Q)
  (fin:∀(s2:Shared) (H2:Hp) (fp:List Addr) (C:Addr) (σ5:St) (H5:Hp) (s5:Shared) (ys:List V) (its:List Value) (n:Nat),Inv X pins σ H2 s2->(∀b∈fp,FpOk X pins H2 b)->s2.heap.objs.size<C->
   Inv (cxComp X scope N C s2 H2 fp) [(s2.heap.objs.size,{ cls:=.type "list",data:=.seq its.toArray n })] σ5 H5 s5->Vals ys its->ys.length<=sizeLine->Q (.ref s2.heap.objs.size) (upd H5 s2.heap.objs.size (.lst ys))->
   compPost (model X.prog X.w) X.A X.xe use Qc (.ref s2.heap.objs.size) C (.ok .next) s5) :
  wpAny (model X.prog X.w) X.A (comprehension (.ListComp elt [⟨tg,iter,ifs,0⟩] scope pos) scope X.env fpos (newList []) false (eval iter X.env) use) Qc X.xe s:=by
 have hclos:closureFor scope X.env=pure (closL X.env.cells scope.names []):=closureFor_eq fun x hx hk=>by
  obtain ⟨c,e⟩:=I.ok.has x.1 (S.free x hx hk)
  rw [e];rfl
 refine wpAny_comprehension_free (use:=use) rfl hs hclos S.kind S.loc (thn (hi pins s σ H _ I h) fun v s1 h1=>thn h1 fun itv s2 h2=>?_)
 obtain ⟨it,fp,tn,J,H2,e,I2,T,st2,f2,W,⟨m0,w0⟩,turn⟩:=h2
 subst e
 have ho2:=T.obj 0 _ st2
 have fpLt:∀b∈fp,b<s2.heap.objs.size:=fun b hb=>by obtain ⟨o,e,_⟩:=ho2 b hb;exact Heap.lt_size e
 refine wpAny_newObj_type (wpAny_newFunctionEnv S.nocell (by intro y hy;simp at hy) (fun h₁ hns₁ hsb₁=>?_) S.kind)
 dsimp only at hns₁ hsb₁ ⊢
 generalize hH2:s2.heap.push { cls:=.type "list",dict:=none,data:=.seq ([]:List Value).toArray }=HH at hns₁ hsb₁ ⊢
 have hCs:HH.objs.size=s2.heap.objs.size+1:=by rw [<-hH2,Heap.size_push]
 have hC:s2.heap.objs.size<HH.objs.size:=by rw [hCs];exact Nat.lt_succ_self _
 have old:∀b o,s2.heap.get? b=some o->h₁.get? b=some o:=fun b o e=>hsb₁.extBut b o (Nat.ne_of_lt (Nat.lt_trans (Heap.lt_size e) hC)) (Heap.get?_push_of_some _ (hH2▸Heap.get?_push_of_some _ e))
 have hacc:h₁.get? s2.heap.objs.size=some { cls:=.type "list",data:=.seq ([]:List Value).toArray }:=hsb₁.extBut _ _ (Nat.ne_of_lt hC) (Heap.get?_push_of_some _ (hH2▸Heap.get?_push_size _ rfl))
 generalize HH.objs.size=C at *
 let X':=cxComp X scope N C s2 H2 fp
 have stat:∀{H':Hp} {o:Obj},(∀b∈fp,H' b=none)->∀b∈fp,FpOk X' [(s2.heap.objs.size,o)] H' b:=fun {H' o} hn b hb=>by
  obtain ⟨z0,z1,z2,z3,z4,z5⟩:=f2 b hb
  refine ⟨hn b hb,Nat.ne_of_lt (Nat.lt_trans (fpLt b hb) hC),fun z=>?_,.inl hb,fun x c e=>?_,fun p hp=>?_⟩
  ·rcases List.mem_cons.mp (I2.stkSub b z) with y|y
   ·exact z1 y
   ·exact z2 y
  ·rcases closL_sub (show (closL X.env.cells scope.names []).lookup x=some c from e) with y|y
   ·simp at y
   ·exact z4 x c y
  ·have e:p=(s2.heap.objs.size,o):=by
    have hp':p∈([]:List (Addr × Obj))++[(s2.heap.objs.size,o)]:=hp
    simpa using hp'
   subst e
   exact Ne.symm (Nat.ne_of_lt (fpLt b hb))
 have I3:Inv X' [(s2.heap.objs.size,{ cls:=.type "list",data:=.seq ([]:List Value).toArray })] (List.replicate k none++σ) H2 { s2 with heap:=h₁,toks:=s2.toks+([]:List (Str × Value)).length }:=
  comp_start S hc I2 f2 ho2 hC rfl old hacc (fun v z=>by cases z) (by simpa using hns₁)
 have loop:∀s₃:Shared,s₃={ s2 with heap:=h₁,toks:=s2.toks+([]:List (Str × Value)).length }->
   codeAny (model X.prog X.w) X.A (.compLoop (.ListComp elt [⟨tg,iter,ifs,0⟩] scope pos) 0 (.ref it) (.ref s2.heap.objs.size) (compEnvC scope (closL X.env.cells scope.names []) C X.env))
    (compPost (model X.prog X.w) X.A X.xe use Qc (.ref s2.heap.objs.size) C) s₃:=by
  rintro s₃ rfl
  refine codeAny_compLoop_gen (fun m s'=>∃i ys its n σ' H',Inv X' [(s2.heap.objs.size,{ cls:=.type "list",data:=.seq (its:List Value).toArray n })] σ' H' s'/\Vals ys its/\ys.length<=sizeLine/\tn i s'.heap/\(∀b∈fp,H' b=none)/\W i m ys σ' H') ?_ m0
   ⟨0,[],[],0,_,H2,I3,.nil,Nat.zero_le _,T.keep _ _ _ st2 fun b _ o e=>old b o e,fun b hb=>(f2 b hb).1,w0⟩
  rintro m s4 ⟨i,ys,its,n,σ4,H4,I4,rv,hz,st4,fr4,w4⟩
  rcases turn i m ys σ4 H4 w4 with ⟨stop,qn⟩|⟨go,hlt,M,hM,step⟩
  ·refine thn (T.done X' rfl rfl rfl rfl i _ s4 σ4 H4 (fun _ _=>False) I4 (stat fr4) st4 stop) fun r s5 ⟨hr,I5⟩=>?_
   subst hr
   have nD:=(I5.pin (s2.heap.objs.size,{ cls:=.type "list",data:=.seq its.toArray n }) (by simp)).2.1
   exact fin s2 H2 fp C _ _ _ ys its n I2 f2 hC I5 rv hz (qn _ nD)
  ·refine thn (T.item X' rfl rfl rfl rfl i _ s4 σ4 H4 (fun _ _=>False) I4 (stat fr4) st4 go) fun r s5 ⟨u,hr,h5⟩=>?_
   subst hr
   refine thn h5 fun _ s6 ⟨x,H6,I6,r6,y6,st6,fr6⟩=>?_
   have I6':=I6.pinned (stat fr6) (T.obj _ _ st6)
   have back:∀{σ7:St} {H7:Hp} {s7:Shared},Inv X' ([(s2.heap.objs.size,{ cls:=.type "list",data:=.seq its.toArray n })]++pinsAt fp s6.heap) σ7 H7 s7->tn (i+1) s7.heap/\∀b∈fp,H7 b=none:=fun {σ7 H7 s7} I7=>by
    refine ⟨T.keep _ _ _ st6 fun b hb o e=>(I7.pin (b,o) (List.mem_append_right _ (List.mem_append_right _ (mem_pinsAt hb e)))).1,fun b hb=>?_⟩
    obtain ⟨o,e,d⟩:=T.obj _ _ st6 b hb
    exact (I7.pin (b,o) (List.mem_append_right _ (List.mem_append_right _ (mem_pinsAt hb e)))).2.1
   refine thn (hg C s2 H2 fp _ s6 σ4 H6 x u _ I6' r6 (step x H6 y6)) fun _ s7 ⟨σ7,H7,I7,q7⟩=>?_
   refine thn (ht C s2 H2 fp _ s7 σ7 H7 _ I7 q7) fun b s8 ⟨H8,I8,q8⟩=>?_
   cases b with
   | false=>
    rw [if_neg Bool.false_ne_true] at q8 ⊢
    obtain ⟨m',hm,w'⟩:=hM _ _ _ q8
    obtain ⟨t8,f8⟩:=back I8
    exact ⟨m',hm,i+1,ys,its,n,σ7,H8,I8.unpinned,rv,hz,t8,f8,w'⟩
   | true=>
    rw [if_pos rfl] at q8 ⊢
    refine thn (he C s2 H2 fp _ s8 σ7 H8 _ I8 q8) fun y s9 ⟨z,H9,I9,r9,q9⟩=>?_
    obtain ⟨t9,f9⟩:=back I9
    have I9u:=I9.unpinned
    obtain ⟨eD,nD,neC,nfD,_⟩:=I9u.pin (s2.heap.objs.size,{ cls:=.type "list",data:=.seq its.toArray n }) (by simp)
    refine call_meets F.slot_list_append ⟨_,eD,rfl⟩ F.entry_list_append (F.args_list_append_2 _ _) (PySem.list_append s2.heap.objs.size its.toArray n y (by rw [List.size_toArray,<-rv.length];omega)) ⟨eD,?_⟩
    obtain ⟨m',hm,w'⟩:=hM _ _ _ q9
    have q:=PySem.IsL.update eD (fun a=>a.push y)
    have eA:(its.toArray.push y)=(its++[y]).toArray:=by simp
    have q':∃n',(s9.heap.update s2.heap.objs.size (Obj.mapSeq fun a=>a.push y)).get? s2.heap.objs.size=some { cls:=.type "list",data:=.seq (its++[y]).toArray n' }:=by
     rw [<-eA];exact ⟨_,q⟩
    obtain ⟨n',q'⟩:=q'
    have kp:∀b o,b≠s2.heap.objs.size->s9.heap.get? b=some o->(s9.heap.update s2.heap.objs.size (Obj.mapSeq fun a=>a.push y)).get? b=some o:=fun b o hb e=>(Heap.get?_update_other s9.heap _ (Ne.symm hb)).trans e
    have I9n:Inv X' [] σ7 H9 s9:=I9u.pins_of fun p hp=>nomatch hp
    have I10:Inv X' [] σ7 H9 { s9 with heap:=s9.heap.update s2.heap.objs.size (Obj.mapSeq fun a=>a.push y),toks:=s9.toks }:=
     I9n.turned (t':=s9.toks) kp nD neC (.inr (Nat.le_refl _)) (fun x c e=>by
      rcases closL_sub (show (closL X.env.cells scope.names []).lookup x=some c from e) with w|w
      ·simp at w
      ·obtain ⟨v,zc⟩:=I2.cell x c w
       exact Nat.ne_of_lt zc.lt) (fun p hp=>nomatch hp)
    refine ⟨m',hm,i+1,ys++[z],its++[y],n',σ7,H9,?_,rv.append (.cons r9 .nil),?_,?_,f9,w'⟩
    ·refine I10.pins_of fun p hp=>?_
     have e:p=(s2.heap.objs.size,{ cls:=.type "list",data:=.seq (its++[y]).toArray n' }):=by simpa using hp
     subst e
     exact ⟨q',nD,neC,nfD,fun v w=>by cases w⟩
    ·rw [List.length_append,List.length_singleton];omega
    ·exact T.keep _ _ _ t9 fun b hb o e=>kp b o (Nat.ne_of_lt (fpLt b hb)) e
 exact codeAny_compStart_list (loop _ rfl) (T.self _ 0 _ _ _ (T.keep _ _ _ st2 fun b _ o e=>old b o e) (loop _ rfl))
theorem pe_comp {elt iter tg:Expr} {ifs:List Expr} {pos:Pos} {wi:TI} {g:TG} {tt:TT} {te:TE} (S:CompScope X scope N k) (hc:X.calm=true) (hi:PI X tg iter wi)
  (hg:∀C s H fp,PG (cxComp X scope N C s H fp) tg g) (ht:∀C s H fp,PTs (cxComp X scope N C s H fp) ifs tt) (he:∀C s H fp,PE (cxComp X scope N C s H fp) elt te)
  (hs:∀x,foldedSetIterable iter X.env x=pure x:=by intro _;rfl):PE X (.ListComp elt [⟨tg,iter,ifs,0⟩] scope pos) (tComp k wi g tt te):=by
 intro pins s σ H Q I h
 rw [eval_ListComp]
 refine comp_run S hc hi hg ht he hs I h fun s2 H2 fp C σ5 H5 s5 ys its n I2 f2 hC I5 rv hz q=>?_
 obtain ⟨mC,hnC,_⟩:=I5.loc
 refine ⟨mC,hnC,fun h' sb=>?_⟩
 exact ⟨.ref s2.heap.objs.size,_,comp_end I2 f2 hC rfl I5 rv hz sb,rfl,q⟩
end
section
variable {prog:Program} {w:World} {A:Around} {E:Value->Shared->Prop} {s:Shared}
theorem alive_any {M:Model} {a:Addr} {Q:Option Obj->Shared->Prop} (h:Q (s.heap.get? a) s):wpAny M A (loadIfAlive a) Q E s:=fun _ _ _=>h
def EnS (h:Heap) (e it:Addr) (i:Nat):Prop:=
 ∃f0 f1 f5:Value,h.get? e=some { cls:=.type "enumerate",dict:=none,data:=.fields #[f0,f1,.ref it,rawInt (i:Int),.none,f5],slots:=#[] } /\
  ((f0=.none/\f1=.bool false)\/∃(a:Addr) (o:Obj),f0=rawInt (a:Int)/\h.get? a=some o/\a≠e/\a≠it)
theorem en_next {e it l:Addr} {i:Nat} {items:Array Value} {x:Value} {Q:Option Value->Shared->Prop}
  (he:EnS s.heap e it i) (hit:s.heap.IsListIter it l i) (hl:s.heap.IsList l items) (hx:items[i]? = some x) (hne:e≠it)
  (hQ:∀h' tk,EnS h' e it (i+1)->h'.IsListIter it l (i+1)->h'.get? s.heap.objs.size=some { cls:=.type "tuple",data:=.seq #[.int (i:Int) tk,x] }->
   (∀b o,b≠e->b≠it->s.heap.get? b=some o->h'.get? b=some o)->Q (some (.ref s.heap.objs.size)) { s with heap:=h',toks:=tk+1 }) :
  wpAny (model prog w) A (pyNext (.ref e)) Q E s:=by
 obtain ⟨f0,f1,f5,he,hf⟩:=he
 have hel:e<s.heap.objs.size:=Heap.lt_size he
 have hil:it<s.heap.objs.size:=by obtain ⟨o,ho,_⟩:=hit;exact Heap.lt_size ho
 rcases hf with ⟨rfl,rfl⟩|⟨a,oa,rfl,ha,hae,hai⟩
 ·refine wpAny_pyNext_enum_item (he:IsEnum s.heap e it i f5) hit hl hx hne fun h' h1 h2 h3 h4 h5=>hQ h' s.toks ?_ h2 h3 h5
  exact ⟨_,_,_,h1,.inr ⟨s.heap.objs.size,_,rfl,h3,Nat.ne_of_gt hel,Nat.ne_of_gt hil⟩⟩
 ·have hT:s.TypeIs (.ref e) "enumerate":=⟨_,he,rfl⟩
  unfold pyNext
  refine wpAny_bind (wpAny_attempt (wpAny_callSpecial?_slot (name:=Str.ofString "__next__") hT F.slot_enumerate_next
   (wpAny_call_entry F.slot_enumerate_next hT F.entry_enumerate_next ?_ (F.args_enumerate_next_1 _))))
  obtain ⟨hp,g,d,tk,os⟩:=s
  show wpAny _ _ (field (.ref e) 2 >>= _) _ _ _
  refine wpAny_bind (wpAny_field he rfl (x:=.ref it) rfl ?_)
  refine wpAny_bind (wpAny_nextOf_list_item hit hl hx fun k1 i1 b1=>?_)
  replace b1:Heap.SameBut it hp k1:=b1
  have e1:=(b1.2 e hne).trans he
  show wpAny _ _ (field (.ref e) 3 >>= _) _ _ ⟨k1,g,d,tk,os⟩
  refine wpAny_bind (wpAny_field e1 rfl (x:=rawInt i) rfl ?_)
  show wpAny _ _ (field (.ref e) 4 >>= _) _ _ ⟨k1,g,d,tk,os⟩
  refine wpAny_bind (wpAny_field e1 rfl (x:=.none) rfl ?_)
  show wpAny _ _ (mkInt i >>= _) _ _ ⟨k1,g,d,tk,os⟩
  refine wpAny_bind (wpAny_mkInt ?_)
  show wpAny _ _ (setField (.ref e) 3 (rawInt ((i:Int)+1)) >>= _) _ _ ⟨k1,g,d,tk+1,os⟩
  refine wpAny_bind (wpAny_setField_rec e1 (by simp) fun k2 e2 b2=>?_)
  replace b2:Heap.SameBut e k1 k2:=b2
  show wpAny _ _ (setField (.ref e) 4 .none >>= _) _ _ ⟨k2,g,d,tk+1,os⟩
  refine wpAny_bind (wpAny_setField_rec e2 (by simp) fun k3 e3 b3=>?_)
  replace b3:Heap.SameBut e k2 k3:=b3
  replace e3:k3.get? e=some { cls:=.type "enumerate",dict:=none,data:=.fields #[rawInt (a:Int),f1,.ref it,rawInt ((i:Int)+1),.none,f5],slots:=#[] }:=by simpa using e3
  show wpAny _ _ (newTuple [.int i tk,x] >>= _) _ _ ⟨k3,g,d,tk+1,os⟩
  refine wpAny_bind (wpAny_newTuple ?_)
  have z3:k3.objs.size=hp.objs.size:=by rw [b3.1,b2.1,b1.1]
  have up3:∀b o,b≠e->b≠it->hp.get? b=some o->k3.get? b=some o:=fun b o q1 q2 q=>b3.extBut b o q1 (b2.extBut b o q1 (b1.extBut b o q2 q))
  have e4:(k3.push { cls:=.type "tuple",data:=.seq #[.int i tk,x] }).get? e=_:=Heap.get?_push_of_some _ e3
  have t4:(k3.push { cls:=.type "tuple",data:=.seq #[.int i tk,x] }).get? hp.objs.size=some { cls:=.type "tuple",data:=.seq #[.int i tk,x] }:=by rw [<-z3];exact Heap.get?_push_size _ rfl
  have i4:(k3.push { cls:=.type "tuple",data:=.seq #[.int i tk,x] }).IsListIter it l (i+1):=by
   obtain ⟨o,ho,r⟩:=(i1.extBut b2.extBut (Ne.symm hne)).extBut b3.extBut (Ne.symm hne)
   exact ⟨o,Heap.get?_push_of_some _ ho,r⟩
  have a4:(k3.push { cls:=.type "tuple",data:=.seq #[.int i tk,x] }).get? a=some oa:=Heap.get?_push_of_some _ (up3 a oa hae hai ha)
  have up4:∀b o,b≠e->b≠it->hp.get? b=some o->(k3.push { cls:=.type "tuple",data:=.seq #[.int i tk,x] }).get? b=some o:=fun b o q1 q2 q=>Heap.get?_push_of_some _ (up3 b o q1 q2 q)
  generalize k3.push { cls:=.type "tuple",data:=.seq #[.int i tk,x] }=k4 at e4 t4 i4 a4 up4
  show wpAny _ _ (Builtin.SmallTypes.ownedTupleIsFree (.ref e) >>= _) _ _ ⟨k4,g,d,tk+1,os⟩
  rw [z3]
  have hel':e<hp.objs.size:=hel
  have hil':it<hp.objs.size:=hil
  have fin:∀k5,(∃f1',k5.get? e=some { cls:=.type "enumerate",dict:=none,data:=.fields #[rawInt (a:Int),f1',.ref it,rawInt ((i:Int)+1),.none,f5],slots:=#[] })->(∀b o,b≠e->k4.get? b=some o->k5.get? b=some o)->
    Q (some (.ref hp.objs.size)) ⟨k5,g,d,tk+1,os⟩:=fun k5 ⟨f1',q⟩ up=>by
   refine hQ k5 tk ⟨_,_,_,q,.inr ⟨a,oa,rfl,up a oa hae a4,hae,hai⟩⟩ (i4.at fun o z=>up it o (Ne.symm hne) z) (up _ _ (Nat.ne_of_gt hel') t4) fun b o q1 q2 z=>up b o q1 (up4 b o q1 q2 z)
  unfold Builtin.SmallTypes.ownedTupleIsFree
  refine wpAny_bind ?_
  refine wpAny_bind (wpAny_field e4 rfl (x:=rawInt (a:Int)) rfl ?_)
  show wpAny _ _ (loadIfAlive (((a:Nat):Int)).toNat >>= _) _ _ _
  refine wpAny_bind (alive_any ?_)
  rw [Int.toNat_natCast,a4]
  simp only [Option.isNone_some,Bool.false_eq_true,if_false]
  refine wpAny_bind (wpAny_field e4 rfl (x:=f1) rfl ?_)
  by_cases hb:(f1 != Value.bool true)=true
  ·simp only [hb,if_true]
   refine wpAny_bind (wpAny_setField_rec e4 (by simp) fun k5 e5 b5=>?_)
   refine wpAny_pure ?_
   simp only [Bool.false_eq_true,if_false]
   exact wpAny_pure ⟨_,rfl,wpAny_pure (fin k5 ⟨_,by simpa using e5⟩ fun b o q z=>b5.extBut b o q z)⟩
  ·simp only [hb,if_false]
   refine wpAny_bind (wpAny_pure ?_)
   refine wpAny_pure ?_
   simp only [Bool.false_eq_true,if_false]
   exact wpAny_pure ⟨_,rfl,wpAny_pure (fin k4 ⟨_,e4⟩ fun b o q z=>z)⟩
end
theorem nb {a b n:Nat} (h:a<n) (h':n<=b):b≠a:=by omega
theorem en_no_len:typeLookup (.type "enumerate") "__len__"=pure none:=by rw [typeLookup_type,builtinLookup_eq_fast];kernel_rfl
theorem en_no_hint:typeLookup (.type "enumerate") "__length_hint__"=pure none:=by rw [typeLookup_type,builtinLookup_eq_fast];kernel_rfl
section
variable {prog:Program} {w:World} {A:Around} {E:Value->Shared->Prop} {s:Shared}
theorem en_end {e it l:Addr} {i:Nat} {items:Array Value} {Q:Option Value->Shared->Prop} (hh:A.handled=none)
  (he:EnS s.heap e it i) (hit:s.heap.IsListIter it l i) (hl:s.heap.IsList l items) (hx:items[i]? = none)
  (hQ:∀h',(∀b o,b≠it->s.heap.get? b=some o->h'.get? b=some o)->Q none { s with heap:=h' }):wpAny (model prog w) A (pyNext (.ref e)) Q E s:=by
 obtain ⟨f0,f1,f5,he,_⟩:=he
 have hT:s.TypeIs (.ref e) "enumerate":=⟨_,he,rfl⟩
 unfold pyNext
 refine wpAny_bind (wpAny_attempt (wpAny_callSpecial?_slot (name:=Str.ofString "__next__") hT F.slot_enumerate_next
  (wpAny_call_entry F.slot_enumerate_next hT F.entry_enumerate_next ?_ (F.args_enumerate_next_1 _))))
 show wpAny _ _ (field (.ref e) 2 >>= _) _ _ _
 refine wpAny_bind (wpAny_field he rfl (x:=.ref it) rfl ?_)
 refine wpAny_bind (wpAny_nextOf_list_end hh hit hl hx fun h' x he' hx'=>?_)
 obtain ⟨o,ho,hc⟩:=hx'
 refine wpAny_bind (wpAny_isInstance (T:="StopIteration") (b:=true) ⟨o,ho,hc⟩ isSubtype_stop ?_)
 exact wpAny_pure (hQ h' fun b o hb q=>he' b o hb q)
def Tups (h:Heap) (ts:List Addr) (items:Array Value) (n0:Nat):Prop:=
 ts.Nodup/\∀(j:Nat) (t:Addr),ts[j]? = some t->n0<=t/\∃tk x,items[j]? = some x/\h.get? t=some { cls:=.type "tuple",data:=.seq #[.int (j:Int) tk,x] }
theorem nodup_snoc {α:Type}:∀{l:List α} {x:α},l.Nodup->x ∉ l->(l++[x]).Nodup
 | [],_,_,_=>by simp
 | y::r,x,h,hx=>by
  rw [List.cons_append,List.nodup_cons]
  have h':=List.nodup_cons.mp h
  refine ⟨fun z=>?_,nodup_snoc h'.2 fun z=>hx (List.mem_cons_of_mem _ z)⟩
  rcases List.mem_append.mp z with z|z
  ·exact h'.1 z
  ·rw [List.mem_singleton] at z
   exact hx (by rw [z];exact List.mem_cons_self)
theorem en_extend {R:Result->Shared->Prop} {e it l S:Addr} {items:Array Value} {res:Value} {n0:Nat} (hh:A.handled=none) (hne:e≠it) (hSe:S≠e) (hSi:S≠it) (hle:l≠e) (hli:l≠it) (hlS:l≠S)
  (hle0:e<n0) (hli0:it<n0) (hS0:S<n0) (hsz:items.size<=sizeLine) :
  ∀(k i:Nat) (s:Shared) (ts:List Addr) (c:Nat),items.size - i=k->i<=items.size->EnS s.heap e it i->s.heap.IsListIter it l i->s.heap.IsList l items->ts.length=i->Tups s.heap ts items n0->n0<=s.heap.objs.size->
   s.heap.get? S=some { cls:=.type "list",dict:=none,data:=.seq (ts.map Value.ref).toArray c,slots:=#[] }->
   (∀h' tk ts' c',(∀b o,b≠e->b≠it->b≠S->s.heap.get? b=some o->h'.get? b=some o)->ts'.length=items.size->Tups h' ts' items n0->
    h'.get? S=some { cls:=.type "list",dict:=none,data:=.seq (ts'.map Value.ref).toArray c',slots:=#[] }->R (.ok (.ret res)) { s with heap:=h',toks:=tk })->
   codeAny (model prog w) A (.builtin "list.extend.loop" ⟨[.ref S,.ref e,res],[]⟩) R s:=by
 intro k
 induction k with
 | zero=>
  intro i s ts c hk hi he hit hl hts hT hn hS hR
  have hin:i=items.size:=by omega
  refine codeAny_builtin F.entry_extend_loop ?_
  rw [Around.under_plainId F.plain_extend_loop _]
  show wpAny _ A.in1 (pyNext (.ref e) >>= _) _ _ s
  refine wpAny_bind (en_end (A:=A.in1) hh he hit hl (by simp [hin]) fun h' up=>?_)
  refine wpAny_pure (hR h' s.toks ts c (fun b o _ q _ z=>up b o q z) (hts.trans hin) ⟨hT.1,fun j t q=>?_⟩ (up S _ hSi hS))
  obtain ⟨q1,tk,x,q2,q3⟩:=hT.2 j t q
  exact ⟨q1,tk,x,q2,up t _ (nb hli0 q1) q3⟩
 | succ k ih=>
  intro i s ts c hk hi he hit hl hts hT hn hS hR
  have hlt:i<items.size:=by omega
  refine codeAny_builtin F.entry_extend_loop ?_
  rw [Around.under_plainId F.plain_extend_loop _]
  show wpAny _ A.in1 (pyNext (.ref e) >>= _) _ _ s
  refine wpAny_bind (en_next (A:=A.in1) he hit hl (x:=items[i]) (by simp [hlt]) hne fun h' tk e1 i1 t1 up=>?_)
  have S1:=up S _ hSe hSi hS
  have fresh:s.heap.objs.size ∉ ts:=fun z=>by
   obtain ⟨j,q⟩:=List.getElem?_of_mem z
   obtain ⟨_,_,_,_,q3⟩:=hT.2 j _ q
   exact absurd (Heap.lt_size q3) (Nat.lt_irrefl _)
  have hn1:n0<=h'.objs.size:=Nat.le_trans hn (Nat.le_of_lt (Heap.lt_size t1))
  show wpAny _ A.in1 (updateSeq S (·.push (.ref s.heap.objs.size)) >>= _) _ _ _
  have sz1:(ts.map Value.ref).toArray.size=i:=by simp [hts]
  refine wpAny_bind (wpAny_updateSeq S1 rfl (wpAny_pure ⟨plainId_quiet F.plain_extend_loop _,?_⟩) (by rw [sz1];omega) (by show ((ts.map Value.ref).toArray.push _).size<=sizeLine+1;rw [Array.size_push,sz1];omega))
  have up2:∀b o,b≠S->h'.get? b=some o->(h'.update S (Obj.mapSeq (·.push (Value.ref s.heap.objs.size)))).get? b=some o:=fun b o q z=>(Heap.get?_update_other _ _ (Ne.symm q)).trans z
  have S2:=Heap.get?_update_self (Obj.mapSeq (·.push (Value.ref s.heap.objs.size))) S1 rfl
  have ea:(ts.map Value.ref).toArray.push (Value.ref s.heap.objs.size)=((ts++[s.heap.objs.size]).map Value.ref).toArray:=by simp
  have S3:∃c',(h'.update S (Obj.mapSeq (·.push (Value.ref s.heap.objs.size)))).get? S=some { cls:=.type "list",dict:=none,data:=.seq ((ts++[s.heap.objs.size]).map Value.ref).toArray c',slots:=#[] }:=by
   rw [<-ea];exact ⟨_,S2⟩
  obtain ⟨c',S3⟩:=S3
  have T2:Tups (h'.update S (Obj.mapSeq (·.push (Value.ref s.heap.objs.size)))) (ts++[s.heap.objs.size]) items n0:=by
   refine ⟨nodup_snoc hT.1 fresh,fun j t q=>?_⟩
   by_cases hj:j<ts.length
   ·rw [List.getElem?_append_left hj] at q
    obtain ⟨q1,tk',x,q2,q3⟩:=hT.2 j t q
    exact ⟨q1,tk',x,q2,up2 t _ (nb hS0 q1) (up t _ (nb hle0 q1) (nb hli0 q1) q3)⟩
   ·rw [List.getElem?_append_right (by omega)] at q
    have hj':j=i:=by
     rcases Nat.lt_or_ge (j - ts.length) 1 with z|z
     ·omega
     ·rw [List.getElem?_eq_none (by simp;omega)] at q;cases q
    subst hj'
    have:t=s.heap.objs.size:=by
     rw [hts,Nat.sub_self] at q
     simpa using q.symm
    subst this
    exact ⟨hn,tk,items[j],by simp [hlt],up2 _ _ (nb hS0 hn) t1⟩
  have E2:EnS (h'.update S (Obj.mapSeq (·.push (Value.ref s.heap.objs.size)))) e it (i+1):=by
   obtain ⟨f0,f1,f5,q,z⟩:=e1
   refine ⟨f0,f1,f5,up2 e _ (Ne.symm hSe) q,?_⟩
   rcases z with z|⟨a,o,z1,z2,z3,z4⟩
   ·exact .inl z
   ·by_cases ha:a=S
    ·subst ha;exact .inr ⟨a,_,z1,S3,z3,z4⟩
    ·exact .inr ⟨a,o,z1,up2 a o ha z2,z3,z4⟩
  refine ih (i+1) _ (ts++[s.heap.objs.size]) c' (by omega) hlt E2 (i1.at fun o z=>up2 it o (Ne.symm hSi) z) ((hl.at fun o z=>up l o hle hli z).at fun o z=>up2 l o hlS z) (by simp [hts]) T2 ?_ S3 fun h2 tk2 ts2 c2 up3 q1 q2 q3=>?_
  ·show n0<=(h'.update S _).objs.size
   rw [Heap.size_update];exact hn1
  ·exact hR h2 tk2 ts2 c2 (fun b o z1 z2 z3 z=>up3 b o z1 z2 z3 (up2 b o z3 (up b o z1 z2 z))) q1 q2 q3
theorem call_list_enum {Q : Value → Shared → Prop} {e it l : Addr} {items : Array Value} (hh : A.handled = none) (he : IsEnum s.heap e it 0 .none) (hit : s.heap.IsListIter it l 0) (hl : s.heap.IsList l items) (hne : e ≠ it) (hle : l ≠ e) (hli : l ≠ it) (hsz : items.size ≤ sizeLine)
    (hQ : ∀ h' tk ts c, (∀ b o, b ≠ e → b ≠ it → s.heap.get? b = some o → h'.get? b = some o) → ts.length = items.size → Tups h' ts items (s.heap.objs.size + 1) →
      h'.get? s.heap.objs.size = some { cls := .type "list", dict := none, data := .seq (ts.map Value.ref).toArray c, slots := #[] } → Q (.ref s.heap.objs.size) { s with heap := h', toks := tk }) :
    wpAny (model prog w) A (call (.type "list") [.ref e]) Q E s := by
  have el : e < s.heap.objs.size := Heap.lt_size he
  have il : it < s.heap.objs.size := by obtain ⟨o, ho, _⟩ := hit; exact Heap.lt_size ho
  have ll : l < s.heap.objs.size := by obtain ⟨o, ho, _⟩ := hl; exact Heap.lt_size ho
  refine callType_codes (Q₁ := fun obj s1 => obj = .ref s.heap.objs.size ∧ s1 = { s with heap := s.heap.push { cls := .type "list", data := .seq #[] } }) F.called_list (F.typeCall_list_1 _) F.entry_list_init
    (code_list_new _ ⟨rfl, rfl⟩) fun obj s1 h1 => ?_
  obtain ⟨rfl, rfl⟩ := h1
  have hS : (s.heap.push { cls := .type "list", data := .seq #[] }).get? s.heap.objs.size = some { cls := .type "list", data := .seq #[] } := Heap.get?_push_size _ rfl
  have up0 : ∀ b o, s.heap.get? b = some o → (s.heap.push { cls := .type "list", data := .seq #[] }).get? b = some o := fun b o z => Heap.get?_push_of_some _ z
  have sz0 : (s.heap.push { cls := .type "list", data := .seq #[] }).objs.size = s.heap.objs.size + 1 := Heap.size_push ..
  refine ⟨⟨_, hS, rfl⟩, F.args_list_init_2 _ _, ?_⟩
  generalize s.heap.push { cls := .type "list", data := .seq #[] } = k0 at hS up0 sz0
  generalize hSS : s.heap.objs.size = S at *
  show wpAny _ _ (do let old ← Builtin.List.listItems (.ref S); Builtin.List.listUpdate (.ref S) (fun _ => #[]); letGo old.toList.reverse; Builtin.List.listExtendWith (.ref S) (.ref e) .none) _ _ _
  refine wpAny_bind ?_
  unfold Builtin.List.listItems
  refine wpAny_bind (wpAny_seqItems hS rfl (wpAny_pure ?_))
  show wpAny _ _ (updateSeq S (fun _ => #[]) >>= fun _ => letGo (#[] : Array Value).toList.reverse >>= fun _ => Builtin.List.listExtendWith (.ref S) (.ref e) .none) _ _ _
  refine wpAny_bind (wpAny_updateSeq hS rfl ?_)
  refine wpAny_bind (wpAny_letGo ?_)
  have S1 := Heap.get?_update_self (Obj.mapSeq (fun _ => (#[] : Array Value))) hS rfl
  have up1 : ∀ b o, s.heap.get? b = some o → (k0.update S (Obj.mapSeq (fun _ => (#[] : Array Value)))).get? b = some o :=
    fun b o z => (Heap.get?_update_other _ _ (fun q : S = b => by subst q; exact absurd (Heap.lt_size z) (by rw [hSS]; exact Nat.lt_irrefl _))).trans (up0 b o z)
  have sz1 : (k0.update S (Obj.mapSeq (fun _ => (#[] : Array Value)))).objs.size = S + 1 := by rw [Heap.size_update, sz0]
  generalize k0.update S (Obj.mapSeq (fun _ => (#[] : Array Value))) = k1 at S1 up1 sz1
  have e1 : IsEnum k1 e it 0 .none := up1 e _ he
  have hT : Shared.TypeIs { s with heap := k1 } (.ref e) "enumerate" := ⟨_, e1, rfl⟩
  unfold Builtin.List.listExtendWith
  refine wpAny_bind (wpAny_typeOf hT ?_)
  have g1 : Builtin.List.listSameRef (.ref S) (.ref e) = false := by simp [Builtin.List.listSameRef]; exact nb el (Nat.le_refl _)
  have g2 : (Value.type "enumerate" == Value.type "list") = false := by decide
  have g3 : (Value.type "enumerate" == Value.type "tuple") = false := by decide
  simp only [g1, g2, g3, Bool.or_false, Bool.false_eq_true, if_false]
  refine wpAny_bind (wpAny_pyIter_enum e1 ?_)
  refine wpAny_bind (wpAny_holding ?_)
  unfold Builtin.List.listLengthHint
  refine wpAny_bind (wpAny_specialOf hT en_no_len ?_)
  show wpAny _ _ (specialOf (Value.ref e) (Str.ofString "__length_hint__") >>= _) _ _ _
  refine wpAny_bind (wpAny_specialOf hT en_no_hint ?_)
  refine wpAny_pure ?_
  show wpAny _ _ (rule "list.extend.makes-room" >>= fun _ => Builtin.List.listTouch (.ref S) >>= fun _ => again (.builtin "list.extend.loop" ⟨[.ref S, .ref e, .none], []⟩)) _ _ _
  refine wpAny_bind (wpAny_rule ?_)
  refine wpAny_bind ?_
  show wpAny _ _ (updateSeq S (·.push .none) >>= fun _ => updateSeq S (·.pop)) _ _ _
  refine wpAny_bind (wpAny_updateSeq S1 rfl ?_)
  have S2 := Heap.get?_update_self (Obj.mapSeq (·.push Value.none)) S1 rfl
  refine wpAny_updateSeq (hz := by seq_fits) S2 rfl ?_
  have S3 := Heap.get?_update_self (Obj.mapSeq (·.pop)) S2 rfl
  have up3 : ∀ b o, s.heap.get? b = some o → ((k1.update S (Obj.mapSeq (·.push Value.none))).update S (Obj.mapSeq (·.pop))).get? b = some o :=
    fun b o z => by
      have hb : S ≠ b := fun q => by subst q; exact absurd (Heap.lt_size z) (by rw [hSS]; exact Nat.lt_irrefl _)
      exact (Heap.get?_update_other _ _ hb).trans ((Heap.get?_update_other _ _ hb).trans (up1 b o z))
  have sz3 : ((k1.update S (Obj.mapSeq (·.push Value.none))).update S (Obj.mapSeq (·.pop))).objs.size = S + 1 := by rw [Heap.size_update, Heap.size_update, sz1]
  have S3' : ∃ c, ((k1.update S (Obj.mapSeq (·.push Value.none))).update S (Obj.mapSeq (·.pop))).get? S = some { cls := .type "list", dict := none, data := .seq (([] : List Addr).map Value.ref).toArray c, slots := #[] } := ⟨_, S3⟩
  obtain ⟨c, S4⟩ := S3'
  refine wpAny_pure ⟨plainId_quiet F.plain_extend_loop _, ?_⟩
  clear S3
  generalize (k1.update S (Obj.mapSeq (·.push Value.none))).update S (Obj.mapSeq (·.pop)) = k3 at up3 sz3 S4 ⊢
  show codeAny _ _ _ _ { s with heap := k3 }
  refine en_extend (A := A.in1) (n0 := S + 1) hh hne (nb el (Nat.le_refl _)) (nb il (Nat.le_refl _)) hle hli (Ne.symm (nb ll (Nat.le_refl _))) (Nat.lt_succ_of_lt el) (Nat.lt_succ_of_lt il) (Nat.lt_succ_self _) hsz items.size 0 { s with heap := k3 } [] c (by simp) (Nat.zero_le _)
    ⟨_, _, _, up3 e _ he, .inl ⟨rfl, rfl⟩⟩ (hit.at fun o z => up3 it o z) (hl.at fun o z => up3 l o z) rfl ⟨List.nodup_nil, fun j t q => by simp at q⟩ (Nat.le_of_eq sz3.symm) S4 fun h' tk ts c' u1 u2 u3 u4 => ?_
  exact ⟨rfl, hQ h' tk ts c' (fun b o z1 z2 z => u1 b o z1 z2 (fun q => by subst q; exact absurd (Heap.lt_size z) (by rw [hSS]; exact Nat.lt_irrefl _)) (up3 b o z)) u2 u3 u4⟩
end
section
variable {X:Cx} {pins:List (Addr × Obj)} {σ:St} {H H':Hp} {s:Shared} {h':Heap}
theorem Inv.ext {t':Nat} (I:Inv X pins σ H s) (k:∀b u,s.heap.get? b=some u->h'.get? b=some u) (hH:∀b,b<s.heap.objs.size->H' b=H b) (hok:HOk X.prog X.w H' h') :
  Inv X pins σ H' { s with heap:=h',toks:=t' }:=by
 refine I.un ⟨fun b o q _ _ _=>k b o q,fun b o q _ _ _=>⟨o.slots,k b o q⟩,fun b o q n _=>(hH b (Heap.lt_size q)).trans n,fun b o q _=>⟨o,k b o q⟩,fun b xs q=>(hH b (I.hok.lt q)).trans q,fun b o u q=>(hH b (I.hok.lt q)).trans q,fun b ps q=>⟨#[],?_⟩⟩ hok
 rw [hH b (I.hok.lt q),q];simp
theorem vals_intsAre:∀{ns:List Int} {us:List Value},Vals (ns.map V.int) us->IntsAre us ns
 | [],_,.nil=>.nil
 | n::r,_,.cons h t=>by
  obtain ⟨tk,rfl⟩:=h
  exact .cons n tk (vals_intsAre t)
def rSum (K:PySem.W.Frag):List V->Hp->VK->Prop:=fun xs H Q=>∃(a:Addr) (ns:List Int),xs=[.ref a]/\SqL K H a (ns.map V.int)/\Q (.int ns.sum) H
theorem call_sum (hc:X.calm=true):CallR X (.builtin "sum") (rSum X.K):=by
 intro pins s σ H xs us Q I r h
 obtain ⟨a,ns,rfl,hq,q⟩:=h
 obtain ⟨u,rfl,ru⟩:=vals1 r
 cases ru
 obtain ⟨its,rv,pl,hz⟩:=I.list hq
 have hi:=vals_intsAre rv
 obtain ⟨ys,ey⟩:=hi.allInts.items
 have en:ys.toList.map (·.1)=ns:=by
  rw [<-nums_intItems,<-ey]
  exact hi.numsOf
 refine sum_intListG (xs:=ys) (I.ok.hd hc) (by rw [<-ey];exact pl.isList) fun h' tk t' k=>?_
 have es:preSum (numAt ys) ys.size=ns.sum:=by
  rw [preSum_eq,List.take_of_length_le (by simp),en]
 rw [es]
 exact ⟨.int ns.sum,H,I.kept k,⟨_,rfl⟩,q⟩
def rEqL (K:PySem.W.Frag):R2:=fun x y H Q=>∃(a b:Addr) (ns ms:List Int),x=.ref a/\y=.ref b/\SqL K H a (ns.map V.int)/\SqL K H b (ms.map V.int)/\Q (.bl (decide (ns=ms))) H
def rNeL (K:PySem.W.Frag):R2:=fun x y H Q=>∃(a b:Addr) (ns ms:List Int),x=.ref a/\y=.ref b/\SqL K H a (ns.map V.int)/\SqL K H b (ms.map V.int)/\Q (.bl (!decide (ns=ms))) H
theorem op_eqL (hu:X.A.units+64<cLine):OpR X (compareOp .Eq) (rEqL X.K):=by
 intro pins s σ H x y v u Q I rx ry h
 obtain ⟨a,b,ns,ms,rfl,rfl,h1,h2,q⟩:=h
 cases rx
 cases ry
 obtain ⟨i1,r1,p1,_⟩:=I.list h1
 obtain ⟨i2,r2,p2,_⟩:=I.list h2
 exact PySem.W.eq_intsK p1.isList (vals_intsAre r1) p2.isList (vals_intsAre r2) hu ⟨.bl _,H,I,rfl,q⟩
theorem op_neL (hu:X.A.units+64<cLine):OpR X (compareOp .NotEq) (rNeL X.K):=by
 intro pins s σ H x y v u Q I rx ry h
 obtain ⟨a,b,ns,ms,rfl,rfl,h1,h2,q⟩:=h
 cases rx
 cases ry
 obtain ⟨i1,r1,p1,_⟩:=I.list h1
 obtain ⟨i2,r2,p2,_⟩:=I.list h2
 exact PySem.W.ne_intsK p1.isList (vals_intsAre r1) p2.isList (vals_intsAre r2) hu ⟨.bl _,H,I,rfl,q⟩
theorem vals_rev {xs:List V} {us:List Value} (r:Vals xs us):Vals xs.reverse us.reverse:=by
 induction r with
 | nil=>exact .nil
 | cons h t ih=>
  rw [List.reverse_cons,List.reverse_cons]
  exact ih.append (.cons h .nil)
def tRev (K:PySem.W.Frag) (te:TE):TE:=fun σ H Q=>te σ H fun x H1=>∃(a:Addr) (xs:List V),x=.ref a/\SqL K H1 a xs/\∀p,H1 p=none->Q (.ref p) (upd H1 p (.lst xs.reverse))
theorem pe_rev {e:Expr} {te:TE} {pos p1 p2 p3:Pos} {j} (he:PE X e te):PE X (.Subscript e (.Slice none none (some (.UnaryOp .USub (.Constant (.int 1) j p1) p2)) p3) pos) (tRev X.K te):=by
 intro pins s σ H Q I h
 refine Subscript_ (thn (he pins s σ H _ I h) fun v s1 ⟨x,H1,I1,r1,q1⟩=>?_)
 obtain ⟨a,xs,rfl,hq,q⟩:=q1
 cases r1
 refine wpAny_Slice ?_
 rw [evalPart_none]
 refine wpAny_pure ?_
 refine wpAny_pure ?_
 rw [evalPart_some]
 refine thn ((pe_un un_neg pe_int:PE X _ _) pins s1 σ H1 (fun y H2=>y=.int (-1)/\H2=H1) I1 ⟨1,rfl,rfl,rfl⟩) fun w s2 ⟨y,H2,I2,r2,q2⟩=>?_
 obtain ⟨rfl,rfl⟩:=q2
 obtain ⟨tk,rfl⟩:=r2
 have I3:Inv X pins σ H2 { s2 with heap:=s2.heap.push { cls:=.type "slice",data:=.fields #[.none,.none,.int (-1) tk] } }:=I2.kept (t':=s2.toks) fun b ob q=>Heap.get?_push_of_some _ q
 obtain ⟨its,rv,pl,hz⟩:=I3.list hq
 show wpAny (model X.prog X.w) X.A (subscriptTail e (.Slice none none (some (.UnaryOp .USub (.Constant (.int 1) j p1) p2)) p3) (.ref a) (.ref s2.heap.objs.size)) (EP X pins σ Q) X.xe { s2 with heap:=s2.heap.push { cls:=.type "slice",data:=.fields #[.none,.none,.int (-1) tk] } }
 refine tail_any (ops:=[.ref a,.ref s2.heap.objs.size]) pl.isList.typeIs slot_list_getitem.lookup ?_ (by with_unfolding_all rfl)
 have hl:=rv.length
 refine wpAny_getItem_list_slice pl.isList (Heap.IsSliceOf.new ..) .none .none (.int (-1) tk) (by simp) ?_ (by rw [List.size_toArray]<;>omega)
 rw [PySem.W.krv_pick]
 refine ⟨.ref _,_,I3.laid (t':=s2.toks) (o:=.lst xs.reverse) (fun b ob q=>Heap.get?_push_of_some _ q) (Nat.le_refl _) ?_,rfl,q _ (I3.hok.fresh (Nat.le_refl _))⟩
 exact ⟨by rw [List.length_reverse];exact hz,its.reverse,0,vals_rev rv,Heap.get?_push_size _ rfl⟩
def CDivB (i j:Int):Prop:=0<j/\j.natAbs.log2<9000
theorem op_fdivB:OpR X (binaryOp .FloorDiv) (rI CDivB fun i j=>.int (i / j)):=opI fun i j _ _ _ _ _ hc q=>by
 have h1:(0:Int)<j:=hc.1
 refine floordiv_int (by omega) ?_ (.inl (PyProof.noPylong_of_log2 hc.2))
 rw [Int.fdiv_eq_ediv_of_nonneg _ (by omega)]
 exact q
def tListEnum (K:PySem.W.Frag) (tl:TE):TE:=fun σ H Q=>tl σ H fun x H1=>∃(a:Addr) (xs:List V),x=.ref a/\SqL K H1 a xs /\
 ∀(r:Addr) (ts:List Addr) (H2:Hp),H1 r=none->(∀t∈ts,H1 t=none/\t≠r)->ts.length=xs.length->(∀b o,H1 b=some o->H2 b=some o)->H2 r=some (.lst (ts.map V.ref))->(∀(j:Nat) (t:Addr) (y:V),ts[j]? = some t->xs[j]? = some y->H2 t=some (.tup [.int (j:Int),y]))->Q (.ref r) H2
def enHp (H:Hp) (S:Addr) (ts:List Addr) (xs:List V):Hp:=fun b=>if b=S then some (.lst (ts.map V.ref)) else match ts.findIdx? (· == b) with
 | some j=>some (.tup [.int (j:Int),(xs[j]?).getD .non])
 | none=>H b
theorem find_at {ts:List Addr} (nd:ts.Nodup) {j:Nat} {t:Addr} (h:ts[j]? = some t):ts.findIdx? (· == t)=some j:=by
 obtain ⟨hj,e⟩:=List.getElem?_eq_some_iff.mp h
 rw [List.findIdx?_eq_some_iff_getElem]
 refine ⟨hj,by simp [e],fun i hi=>?_⟩
 have hi':i<ts.length:=by omega
 intro z
 have z':ts[i]=t:=by simpa using z
 have:=(List.getElem_inj nd).mp (z'.trans e.symm)
 omega
theorem find_some {ts:List Addr} {j:Nat} {b:Addr} (h:ts.findIdx? (· == b)=some j):ts[j]? = some b:=by
 rw [List.findIdx?_eq_some_iff_getElem] at h
 obtain ⟨hj,e,_⟩:=h
 rw [List.getElem?_eq_getElem hj]
 simpa using e
theorem vals_refs:∀(ts:List Addr),Vals (ts.map V.ref) (ts.map Value.ref)
 | []=>.nil
 | _::r=>.cons rfl (vals_refs r)
theorem pe_listEnum {l:Expr} {tl:TE} {p1 p2 pos pos2:Pos} (hc:X.calm=true) (hl:PE X l tl) (hg:Gl X "list") (hm:X.mg "list"=none) (hg2:Gl X "enumerate") (hm2:X.mg "enumerate"=none)
  (hs:starEach [l] X.env=[(false,eval l X.env)]:=by rfl) :
  PE X (.Call (.Name "list" p1) [.Call (.Name "enumerate" p2) [l] [] pos2] [] pos) (tListEnum X.K tl):=by
 intro pins s σ H Q I h
 refine Call_ (ld_blt (u:=.type "list") I hg hm (by kernel_rfl) (PyProof.Rows.callWith_type1 ?_ rfl rfl))
 refine Calls.spliced_cons ?_
 refine Call_ (ld_blt (u:=.type "enumerate") I hg2 hm2 (by kernel_rfl) (PyProof.Rows.callWith_type1 ?_ hs rfl))
 rw [hs]
 refine Calls.spliced_cons (thn (hl pins s σ H _ I h) fun v s1 ⟨x,H1,I1,r1,q1⟩=>?_)
 refine Calls.spliced_nil ?_
 obtain ⟨a,xs,rfl,hq,q⟩:=q1
 cases r1
 obtain ⟨its,rv,pl,hz⟩:=I1.list hq
 have hlen:=rv.length
 have hLs:=pl.isList
 refine call_enumerate_list hLs fun h1 e1 i1 z1 up1=>?_
 refine Calls.spliced_nil ?_
 have al:a<s1.heap.objs.size:=by obtain ⟨o,e,_⟩:=hLs;exact Heap.lt_size e
 refine call_list_enum (s:={ s1 with heap:=h1 }) (I1.ok.hd hc) e1 i1 (hLs.at fun o z=>up1 a o z) (Nat.succ_ne_self _) (Nat.ne_of_lt (Nat.lt_succ_of_lt al)) (Nat.ne_of_lt al) (by rw [List.size_toArray,<-hlen];exact hz) fun h2 tk ts c up2 tl2 T2 S2=>?_
 have hz1:h1.objs.size=s1.heap.objs.size+2:=z1
 have S2':h2.get? h1.objs.size=some { cls:=.type "list",dict:=none,data:=.seq (ts.map Value.ref).toArray c,slots:=#[] }:=S2
 have T2':Tups h2 ts its.toArray (h1.objs.size+1):=T2
 have up:∀b o,s1.heap.get? b=some o->h2.get? b=some o:=fun b o z=>by
  have hb:=Heap.lt_size z
  exact up2 b o (Nat.ne_of_lt (Nat.lt_succ_of_lt hb)) (Nat.ne_of_lt hb) (up1 b o z)
 have tsl:ts.length=xs.length:=by rw [hlen,tl2,List.size_toArray]
 have big:∀t∈ts,h1.objs.size+1<=t:=fun t ht=>by
  obtain ⟨j,e⟩:=List.getElem?_of_mem ht
  exact (T2'.2 j t e).1
 have fnone:∀b,b<=h1.objs.size->ts.findIdx? (· == b)=none:=fun b hb=>by
  rw [List.findIdx?_eq_none_iff]
  intro t ht
  have h3:=big t ht
  have h4:t≠b:=Nat.ne_of_gt (by omega)
  simpa using h4
 have old:∀b,b<s1.heap.objs.size->enHp H1 h1.objs.size ts xs b=H1 b:=fun b hb=>by
  unfold enHp
  rw [if_neg (Nat.ne_of_lt (by omega)),fnone b (by omega)]
 have fr:∀b,s1.heap.objs.size<=b->H1 b=none:=fun b hb=>I1.hok.fresh hb
 have okH:HOk X.prog X.w (enHp H1 h1.objs.size ts xs) h2:=by
  intro b o e
  unfold enHp at e
  by_cases hb:b=h1.objs.size
  ·rw [if_pos hb] at e
   cases e
   subst hb
   exact ⟨by rw [List.length_map,tsl];exact hz,ts.map Value.ref,c,vals_refs ts,S2'⟩
  ·rw [if_neg hb] at e
   cases hf:ts.findIdx? (· == b) with
   | some j=>
    rw [hf] at e
    cases e
    have hj:=find_some hf
    obtain ⟨_,tk',x',hx',ho'⟩:=T2'.2 j b hj
    have hj':j<xs.length:=by rw [<-tsl];exact (List.getElem?_eq_some_iff.mp hj).1
    obtain ⟨u,hu,ru⟩:=rv.get (List.getElem?_eq_getElem hj')
    have eu:u=x':=by
     have:its[j]? = some x':=by simpa using hx'
     rw [hu] at this;exact Option.some.inj this
    subst eu
    rw [List.getElem?_eq_getElem hj',Option.getD_some]
    exact ⟨by show 2<=sizeLine;decide,[.int (j:Int) tk',u],.cons ⟨tk',rfl⟩ (.cons ru .nil),⟨_,ho',rfl,_,rfl⟩⟩
   | none=>
    rw [hf] at e
    have hlt:=I1.hok.lt e
    refine (I1.hok b o e).stay (fun c' u _ z=>up c' u z) (fun c' z=>?_) fun c' ys z=>?_
    ·exact (old c' (I1.hok.lt z)).trans z
    ·exact (old c' (I1.hok.lt z)).trans z
 refine ⟨.ref h1.objs.size,enHp H1 h1.objs.size ts xs,I1.ext (t':=tk) up old okH,rfl,q _ ts _ (fr _ (by omega)) (fun t ht=>⟨fr t (Nat.le_trans (by omega) (big t ht)),Nat.ne_of_gt (by have:=big t ht;omega)⟩) tsl (fun b o z=>(old b (I1.hok.lt z)).trans z) ?_ fun j t y hj hy=>?_⟩
 ·unfold enHp;rw [if_pos rfl]
 ·unfold enHp
  have h3:=(T2'.2 j t hj).1
  rw [if_neg (Nat.ne_of_gt (by omega)),find_at T2'.1 hj]
  dsimp only
  rw [hy,Option.getD_some]
end
structure DefAt (K:PySem.W.Frag) (mg:Str->Option Value) (x:Str) (st:Stmt) (ps:List Str) where
 f:Addr
 fd:FuncData
 F:Fun K x x st f fd
 m:mg x=some (.ref f)
 b:Binds K fd ps []
theorem pe_callD {X:Cx} {x:Str} {st:Stmt} {ps:List Str} {k:Nat} {sp:Sp} {e:Expr} {es:List Expr} {p pos:Pos} {t:TA} (D:DefAt X.K X.mg x st ps) (G:FnOk X.prog X.w X.K X.mg X.base CX0 k D.f D.fd ps sp) (hr:Room k X.A) (ha:PA X (e::es) t)
  (hg:Gl X x:=by rfl) (hdb:(x == ("__debug__":Str))=false:=by decide) (he:starEach (e::es) X.env=(false,eval e X.env)::starEach es X.env:=by rfl) (hpl:(backTo pos (starEach es X.env)).any (·.1)=false:=by rfl) :
  PE X (.Call (.Name x p) (e::es) [] pos) (tCall sp [] E0 t):=
 pe_call G hr hg D.m D.F.kp D.b .nil pass0 ha hdb he hpl
structure CompSc (osc:Scope) (oN:List Str) (scope:Scope) (N:List Str) (k:Nat):Prop where
 kind:scope.kind=.function
 nocell:∀y∈scope.names,y.2≠.cell
 nd:N.Nodup
 len:N.length=k+oN.length
 loc:∀x∈scope.names,x.2=.local->scope.names.lookup x.1=some .local
 free:∀x∈scope.names,x.2=.free->osc.names.lookup x.1=some .cell\/osc.names.lookup x.1=some .free
 own:∀x∈N.take k,scope.names.lookup x=some .local
 out:∀p∈(N.drop k).zip oN,(scope.names.lookup p.1).isSome=true->p.1=p.2/\scope.names.lookup p.1=some .free\/scope.names.lookup p.1=some .globalImplicit
theorem CompScope.of {X:Cx} {scope:Scope} {N:List Str} {k:Nat} (S:CompSc X.env.scope X.N scope N k):CompScope X scope N k where
 kind:=S.kind
 nocell:=S.nocell
 nd:=S.nd
 len:=S.len
 loc:=S.loc
 free:=S.free
 own:=fun i x hi e=>S.own x (by
  have:(N.take k)[i]? = some x:=by rw [List.getElem?_take_of_lt hi];exact e
  exact List.mem_of_getElem? this)
 out:=fun i x e hs=>by
  have hl:=S.len
  have hi:k+i<N.length:=(List.getElem?_eq_some_iff.mp e).1
  have hi':i<X.N.length:=by omega
  have e1:(N.drop k)[i]? = some x:=by rw [List.getElem?_drop];exact e
  have e2:X.N[i]? = some X.N[i]:=List.getElem?_eq_getElem hi'
  have e3:((N.drop k).zip X.N)[i]? = some (x,X.N[i]):=by
   rw [List.getElem?_zip_eq_some]
   exact ⟨e1,e2⟩
  rcases S.out _ (List.mem_of_getElem? e3) hs with ⟨z1,z2⟩|z
  ·exact .inl ⟨by rw [e2];exact congrArg some z1.symm,z2⟩
  ·exact .inr z
theorem same_upd {H:Hp} {p:Addr} (h:H p=none) (o:HO):Same H (upd H p o):=fun b u q=>by rw [upd_ne (ne_of_none q h)];exact q
section
variable {X:Cx} {K:PySem.W.Frag}
theorem sl_listK (h:X.K=K):SlR X (rSlL K):=by subst h;exact sl_list
theorem op_eqLK (h:X.K=K) (hu:X.A.units+64<cLine):OpR X (compareOp .Eq) (rEqL K):=by subst h;exact op_eqL hu
theorem op_neLK (h:X.K=K) (hu:X.A.units+64<cLine):OpR X (compareOp .NotEq) (rNeL K):=by subst h;exact op_neL hu
theorem call_sumK (h:X.K=K) (hc:X.calm=true):CallR X (.builtin "sum") (rSum K):=by subst h;exact call_sum hc
def rLen (K:PySem.W.Frag):List V->Hp->VK->Prop:=fun xs H Q=>∃p ys,xs=[.ref p]/\(SqL K H p ys\/SqT K H p ys)/\Q (.int ys.length) H
theorem call_lenK (h:X.K=K):CallR X (.builtin "len") (rLen K):=by subst h;exact call_len_seq
theorem pi_listK {tg l:Expr} {tl:TE} (h:X.K=K) (hl:PE X l tl):PI X tg l (iList K tl):=by subst h;exact pi_list hl
theorem pg_tupK {es:List Expr} {k:Nat} {t:TGs} {n:Nat} {pos:Pos} (hK:X.K=K) (hc:X.calm=true) (h:PGs X es t) (hn:(assignEach es X.env).length=n:=by rfl) (hst:(assignEach es X.env).findIdx? (·.1)=none:=by rfl):PG X (.Tuple es k pos) (gTup K n t):=by
 subst hK;exact pg_tup hc h hn hst
theorem pe_revK {e:Expr} {te:TE} {pos p1 p2 p3:Pos} {j} (h:X.K=K) (he:PE X e te):PE X (.Subscript e (.Slice none none (some (.UnaryOp .USub (.Constant (.int 1) j p1) p2)) p3) pos) (tRev K te):=by subst h;exact pe_rev he
theorem pe_listEnumK {l:Expr} {tl:TE} {p1 p2 pos pos2:Pos} (h:X.K=K) (hc:X.calm=true) (hl:PE X l tl) (hg:Gl X "list") (hm:X.mg "list"=none) (hg2:Gl X "enumerate") (hm2:X.mg "enumerate"=none)
  (hs:starEach [l] X.env=[(false,eval l X.env)]:=by rfl):PE X (.Call (.Name "list" p1) [.Call (.Name "enumerate" p2) [l] [] pos2] [] pos) (tListEnum K tl):=by subst h;exact pe_listEnum hc hl hg hm hg2 hm2 hs
end
section
variable {κ:Type} [DecidableEq κ]
def valV (kvs:List (κ × V)) (k:κ):Option V:=(kvs.find? fun kv=>decide (kv.1=k)).map (·.2)
def putK (kvs:List (κ × V)) (k:κ) (v:V):List (κ × V):=
 if (kvs.any fun kv=>decide (kv.1=k))=true then kvs.map (fun kv=>if kv.1=k then (kv.1,v) else kv) else kvs++[(k,v)]
theorem valV_pos {p:κ × V} {r:List (κ × V)} {k:κ} (e:p.1=k):valV (p::r) k=some p.2:=by simp [valV,List.find?_cons,e]
theorem valV_neg {p:κ × V} {r:List (κ × V)} {k:κ} (e:¬p.1=k):valV (p::r) k=valV r k:=by simp [valV,List.find?_cons,e]
theorem valV_any (k:κ):∀kvs:List (κ × V),(kvs.any fun kv=>decide (kv.1=k))=(valV kvs k).isSome
 | []=>rfl
 | p::r=>by
  rw [List.any_cons]
  by_cases e:p.1=k
  ·simp only [valV_pos e,decide_eq_true e,Bool.true_or,Option.isSome_some]
  ·rw [valV_neg e,decide_eq_false e,Bool.false_or];exact valV_any k r
theorem length_putK (kvs:List (κ × V)) (k:κ) (v:V):(putK kvs k v).length<=kvs.length+1:=by
 unfold putK
 split
 ·rw [List.length_map];omega
 ·rw [List.length_append,List.length_cons,List.length_nil];omega
theorem putK_new {kvs:List (κ × V)} {k:κ} (v:V) (h:valV kvs k=none):putK kvs k v=kvs++[(k,v)]:=by
 unfold putK
 rw [valV_any,h]
 exact if_neg (by decide)
theorem RelO.isSome_eq {o:Option V} {u:Option Value} (r:RelO o u):o.isSome=u.isSome:=by
 cases o with
 | none=>cases u with
  | none=>rfl
  | some _=>exact (show False from r).elim
 | some _=>cases u with
  | none=>exact (show False from r).elim
  | some _=>rfl
theorem KV.val {kvs:List (κ × V)} {vs:List (κ × Value)} (r:KV kvs vs) (k:κ):RelO (valV kvs k) (valueAt vs k):=by
 unfold KV at r
 induction r with
 | nil=>exact True.intro
 | @cons p q ps qs h t ih=>
  obtain ⟨h1,h2⟩:=h
  by_cases e:p.1=k
  ·have e':q.1=k:=h1.symm.trans e
   have b:valueAt (q::qs) k=some q.2:=by simp [valueAt,List.find?_cons,e']
   rw [valV_pos e,b];exact h2
  ·have e':¬q.1=k:=fun z=>e (h1.trans z)
   have b:valueAt (q::qs) k=valueAt qs k:=by simp [valueAt,List.find?_cons,e']
   rw [valV_neg e,b];exact ih
theorem KV.any {kvs:List (κ × V)} {vs:List (κ × Value)} (r:KV kvs vs) (k:κ):(kvs.any fun kv=>decide (kv.1=k))=vs.any fun kv=>decide (kv.1=k):=by
 unfold KV at r
 induction r with
 | nil=>rfl
 | cons h t ih=>rw [List.any_cons,List.any_cons,ih,h.1]
theorem KV.repl {kvs:List (κ × V)} {vs:List (κ × Value)} (r:KV kvs vs) (k:κ) {y:V} {u:Value} (ry:RelV y u) :
  KV (kvs.map fun kv=>if kv.1=k then (kv.1,y) else kv) (vs.map fun kv=>if kv.1=k then (kv.1,u) else kv):=by
 unfold KV at r ⊢
 induction r with
 | nil=>exact .nil
 | @cons p q ps qs h t ih=>
  rw [List.map_cons,List.map_cons]
  refine .cons ?_ ih
  obtain ⟨h1,h2⟩:=h
  by_cases e:p.1=k
  ·rw [if_pos e,if_pos (h1.symm.trans e)];exact ⟨h1,ry⟩
  ·rw [if_neg e,if_neg (fun z=>e (h1.trans z))];exact ⟨h1,h2⟩
theorem KV.put {kvs:List (κ × V)} {vs:List (κ × Value)} (r:KV kvs vs) (k:κ) {y:V} {u:Value} (ry:RelV y u):KV (putK kvs k y) (stored vs k u):=by
 unfold putK stored
 rw [r.any k]
 by_cases e:(vs.any fun kv=>decide (kv.1=k))=true
 ·rw [if_pos e,if_pos e];exact r.repl k ry
 ·rw [if_neg e,if_neg e];exact Paired.snoc r ⟨rfl,ry⟩
theorem KV.length {kvs:List (κ × V)} {vs:List (κ × Value)} (r:KV kvs vs):kvs.length=vs.length:=Paired.length r
end
theorem kV_is {P:Program} {w:World} {k:Key} {u:Value} (r:RelV (kV k) u):(mixKind P w).is k u=true:=by
 cases k with
 | inl i=>obtain ⟨t,e⟩:=(show ∃t,u=Value.int i t from r);subst e;exact mixKind_int P w i t
 | inr x=>obtain ⟨t,e⟩:=(show ∃t,u=Value.str x t from r);subst e;exact mixKind_str P w x t
theorem items_are {P:Program} {w:World}:∀{ks:List Key} {us:List Value},Vals (ks.map kV) us->ItemsAre (mixKind P w) ks us
 | [],_,r=>by rw [List.map_nil] at r;cases r;exact .nil
 | k::ks,_,r=>by
  rw [List.map_cons] at r
  cases r with
  | cons h t=>exact .cons (kV_is h) (items_are t)
abbrev KT (H:Hp):List (List Key × V)->List (List Key × Addr × Value)->Prop:=Paired fun p q=>p.1=q.1/\H q.2.1=some (.tup (p.1.map kV))/\RelV p.2 q.2.2
theorem KT.val {H:Hp} {kvs:List (List Key × V)} {xs:List (List Key × Addr × Value)} (r:KT H kvs xs) (k:List Key):RelO (valV kvs k) ((atKey xs k).map (·.2)):=by
 induction r with
 | nil=>exact True.intro
 | @cons p q ps qs h t ih=>
  obtain ⟨h1,_,h2⟩:=h
  by_cases e:p.1=k
  ·have e':q.1=k:=h1.symm.trans e
   have b:atKey (q::qs) k=some q.2:=by simp [atKey,List.find?_cons,e']
   rw [valV_pos e,b];exact h2
  ·have e':¬q.1=k:=fun z=>e (h1.trans z)
   have b:atKey (q::qs) k=atKey qs k:=by simp [atKey,List.find?_cons,e']
   rw [valV_neg e,b];exact ih
theorem KT.repl {H:Hp} {kvs:List (List Key × V)} {xs:List (List Key × Addr × Value)} (r:KT H kvs xs) (k:List Key) {y:V} {u:Value} (ry:RelV y u) :
  KT H (kvs.map fun kv=>if kv.1=k then (kv.1,y) else kv) (xs.map (putAt k u)):=by
 induction r with
 | nil=>exact .nil
 | @cons p q ps qs h t ih=>
  rw [List.map_cons,List.map_cons]
  refine .cons ?_ ih
  obtain ⟨h1,h2,h3⟩:=h
  unfold putAt
  by_cases e:p.1=k
  ·rw [if_pos e,if_pos (h1.symm.trans e)];exact ⟨h1,h2,ry⟩
  ·rw [if_neg e,if_neg (fun z=>e (h1.trans z))];exact ⟨h1,h2,h3⟩
theorem KT.put {H:Hp} {kvs:List (List Key × V)} {xs:List (List Key × Addr × Value)} (r:KT H kvs xs) (k:List Key) {b:Addr} {y:V} {u:Value} (hb:H b=some (.tup (k.map kV))) (ry:RelV y u) :
  KT H (putK kvs k y) (storedH xs k b u):=by
 have e:(kvs.any fun kv=>decide (kv.1=k))=(atKey xs k).isSome:=by
  rw [valV_any,(r.val k).isSome_eq,Option.isSome_map]
 unfold putK storedH
 rw [e]
 by_cases q:(atKey xs k).isSome=true
 ·rw [if_pos q,if_pos q];exact r.repl k ry
 ·rw [if_neg q,if_neg q];exact Paired.snoc r ⟨rfl,hb,ry⟩
theorem KT.keeps {H H':Hp} {kvs:List (List Key × V)} {xs:List (List Key × Addr × Value)} (r:KT H kvs xs) (ht:∀b ys,H b=some (.tup ys)->H' b=some (.tup ys)):KT H' kvs xs:=
 Paired.mapP r fun _ _ z=>⟨z.1,ht _ _ z.2.1,z.2.2⟩
section
variable {P:Program} {w:World} {H:Hp} {h:Heap} {a:Addr}
theorem rd_of {u:HO} (ok:HOk P w H h) (e:Rd H a u):ObjOk P w H h a u:=e.ok ok
theorem dk_rd {kvs:List (Key × V)} (ok:HOk P w H h) (e:Rd H a (.dK kvs)):kvs.length<=sizeLine/\(a == sysModules)=false/\∃vs,KV kvs vs/\h.DictOf (mixKind P w) a vs:=
 show ObjOk P w H h a (.dK kvs) from rd_of ok e
theorem dk_of {kvs:List (Key × V)} (ok:HOk P w H h) (e:H a=some (.dK kvs)):kvs.length<=sizeLine/\(a == sysModules)=false/\∃vs,KV kvs vs/\h.DictOf (mixKind P w) a vs:=dk_rd ok (.inl e)
theorem key_of {ks:List Key} (ok:HOk P w H h) (e:H a=some (.tup (ks.map kV))):(tupleKind (mixKind P w)).is h ks a:=by
 obtain ⟨_,its,r,o,h1,h2,n,h3⟩:=(show ObjOk P w H h a (.tup (ks.map kV)) from ok a _ e)
 exact ⟨o,its.toArray,n,h1,h2,h3,by simpa using items_are r⟩
theorem dt_rd {kvs:List (List Key × V)} (ok:HOk P w H h) (e:Rd H a (.dT kvs)):kvs.length<=sizeLine/\(a == sysModules)=false /\
  ∃xs,KT H kvs xs/\h.DictOfH (tupleKind (mixKind P w)) a xs:=by
 obtain ⟨z,y,xs,r,o,es,ep,h1,h2,h3,h4,h5⟩:=(show ObjOk P w H h a (.dT kvs) from rd_of ok e)
 refine ⟨z,y,xs,r,o,es,ep,h1,h2,h3,h4,fun x hx=>?_,h5⟩
 have all:∀{l:List (List Key × V)} {m:List (List Key × Addr × Value)},KT H l m->∀x∈m,(tupleKind (mixKind P w)).is h x.1 x.2.1:=by
  intro l m q
  induction q with
  | nil=>intro x hx;exact nomatch hx
  | @cons p q ps qs hq t ih=>
   intro x hx
   rcases List.mem_cons.mp hx with e|hx
   ·subst e
    exact key_of ok (by rw [<-hq.1];exact hq.2.1)
   ·exact ih x hx
 exact all r x hx
theorem dt_of {kvs:List (List Key × V)} (ok:HOk P w H h) (e:H a=some (.dT kvs)):kvs.length<=sizeLine/\(a == sysModules)=false /\
  ∃xs,KT H kvs xs/\h.DictOfH (tupleKind (mixKind P w)) a xs:=dt_rd ok (.inl e)
end
def DGet (H:Hp) (a:Addr) (y:V) (r:Option V):Prop:=
 (∃kvs k,Rd H a (.dK kvs)/\y=kV k/\r=valV kvs k)\/∃kvs k b,Rd H a (.dT kvs)/\y=.ref b/\H b=some (.tup (k.map kV))/\r=valV kvs k
def DPut (H:Hp) (a:Addr) (y v:V) (H':Hp):Prop:=
 (∃kvs k,H a=some (.dK kvs)/\y=kV k/\kvs.length<sizeLine/\H'=upd H a (.dK (putK kvs k v))) \/
 ∃kvs k b,H a=some (.dT kvs)/\y=.ref b/\H b=some (.tup (k.map kV))/\kvs.length<sizeLine/\H'=upd H a (.dT (putK kvs k v))
theorem DGet.k {H:Hp} {a:Addr} {kvs:List (Key × V)} {k:Key} (e:H a=some (.dK kvs)):DGet H a (kV k) (valV kvs k):=.inl ⟨kvs,k,.inl e,rfl,rfl⟩
theorem DGet.t {H:Hp} {a b:Addr} {kvs:List (List Key × V)} {k:List Key} (e:H a=some (.dT kvs)) (eb:H b=some (.tup (k.map kV))):DGet H a (.ref b) (valV kvs k):=.inr ⟨kvs,k,b,.inl e,rfl,eb,rfl⟩
theorem DPut.k {H:Hp} {a:Addr} {kvs:List (Key × V)} {k:Key} {v:V} (e:H a=some (.dK kvs)) (hl:kvs.length<sizeLine):DPut H a (kV k) v (upd H a (.dK (putK kvs k v))):=.inl ⟨kvs,k,e,rfl,hl,rfl⟩
theorem DPut.t {H:Hp} {a b:Addr} {kvs:List (List Key × V)} {k:List Key} {v:V} (e:H a=some (.dT kvs)) (eb:H b=some (.tup (k.map kV))) (hl:kvs.length<sizeLine) :
  DPut H a (.ref b) v (upd H a (.dT (putK kvs k v))):=.inr ⟨kvs,k,b,e,rfl,eb,hl,rfl⟩
section
variable {X:Cx} {pins:List (Addr × Obj)} {σ:St} {H:Hp} {s:Shared} {a:Addr} {y v:V} {u r:Value} {o:Option V} {A:Around} {E:Value->Shared->Prop}
theorem Inv.big (I:Inv X pins σ H s):sysModules<s.heap.objs.size:=by
 have h:mainGlobals<s.heap.objs.size:=(I.mod.glob.keeps I.bk).lt
 exact Nat.lt_trans (by decide) h
theorem d_in {Q:Value->Shared->Prop} (hu:A.units+1<cLine) (I:Inv X pins σ H s) (g:DGet H a y o) (ry:RelV y u) (h:∀s',Inv X pins σ H s'->Q (.bool o.isSome) s') :
  wpAny (model X.prog X.w) A (compareOp .In u (.ref a)) Q E s:=by
 rcases g with ⟨kvs,k,e,ey,l⟩|⟨kvs,k,b,e,ey,eb,l⟩
 ·subst ey
  obtain ⟨z,hd,vs,rel,dd⟩:=dk_rd I.hok e
  refine wpAny_in_of (kV_is ry) hd dd.mapOf ?_
  rw [<-(rel.val k).isSome_eq,<-l]
  exact h _ (I.tok _)
 ·subst ey
  cases (show u=Value.ref b from ry)
  obtain ⟨z,hd,xs,rel,dd⟩:=dt_rd I.hok e
  refine wpAny_in_heap (tupleKind_room_in1 hu) (key_of I.hok eb) hd dd ?_
  have q:=(rel.val k).isSome_eq
  rw [Option.isSome_map] at q
  rw [<-q,<-l]
  exact h _ (I.tok _)
theorem d_write {h':Heap} {t':Nat} {ob:HO} (I:Inv X pins σ H s) (mu:Mut (H a)) (hs:Heap.SameBut a s.heap h') (he:∃q,h'.get? a=some q) (new:ObjOk X.prog X.w (upd H a ob) h' a ob) :
  Inv X pins σ (upd H a ob) { s with heap:=h',toks:=t' }:=
 I.write (x:=a) (e:=a) mu (.inl rfl) (fun b q hb z=>(hs.2 b hb).trans z) he new
theorem dk_new {P:Program} {w:World} {H':Hp} {h':Heap} {kvs:List (Key × V)} {vs:List (Key × Value)} (z:kvs.length<=sizeLine) (hd:(a == sysModules)=false) (rel:KV kvs vs) (dd:h'.DictOf (mixKind P w) a vs) :
  ObjOk P w H' h' a (.dK kvs):=⟨z,hd,vs,rel,dd⟩
theorem d_setItem {H':Hp} {Q:Unit->Shared->Prop} (hu:A.units+1<cLine) (I:Inv X pins σ H s) (g:DPut H a y v H') (ry:RelV y u) (rv:RelV v r) (h:∀s',Inv X pins σ H' s'->Q () s') :
  wpAny (model X.prog X.w) A (setItem (.ref a) u r) Q E s:=by
 rcases g with ⟨kvs,k,e,ey,l,eH⟩|⟨kvs,k,b,e,ey,eb,l,eH⟩
 ·subst ey eH
  obtain ⟨z,hd,vs,rel,dd⟩:=dk_of I.hok e
  have hz:vs.length<=sizeLine:=by rw [<-rel.length];exact z
  have hl:(putK kvs k v).length<=sizeLine:=by have:=length_putK kvs k v;omega
  refine wpAny_setItem_pairs (hsz:=hz) (kV_is ry) dd fun h' dd' hs=>h _ ?_
  have he:∃q,h'.get? a=some q:=let ⟨q,_,_,hq,_⟩:=dd';⟨q,hq⟩
  exact d_write I (by rw [e];exact True.intro) hs he (dk_new hl hd (rel.put k rv) dd')
 ·subst ey eH
  cases (show u=Value.ref b from ry)
  obtain ⟨z,hd,xs,rel,dd⟩:=dt_of I.hok e
  have hz:xs.length<=sizeLine:=by rw [<-Paired.length rel];exact z
  have hl:(putK kvs k v).length<=sizeLine:=by have:=length_putK kvs k v;omega
  refine wpAny_setItem_heap (hsz:=hz) (tupleKind_room_in1 hu) (key_of I.hok eb) dd fun h' dd' hs=>h _ ?_
  obtain ⟨q,es,ep,hq,h2,h3,h4,_,h5⟩:=dd'
  refine d_write I (by rw [e];exact True.intro) hs ⟨q,hq⟩ ⟨hl,hd,_,(rel.put k eb rv).keeps fun c ys ec=>?_,q,es,ep,hq,h2,h3,h4,h5⟩
  rw [upd_ne (ne_of ec e (fun z=>nomatch z))]
  exact ec
end
def tDIn (ty td:TE):TE:=fun σ H Q=>ty σ H fun y H1=>td σ H1 fun x H2=>∃a o,x=.ref a/\DGet H2 a y o/\Q (.bl o.isSome) H2
def sDPut (td ty tv:TE):TS:=fun D σ H=>tv σ H fun v H1=>td σ H1 fun x H2=>ty σ H2 fun y H3=>∃a H4,x=.ref a/\DPut H3 a y v H4/\D.nx σ H4
section
variable {X:Cx} {o i e value:Expr} {pos pos' tpos:Pos} {td ty tv:TE}
theorem pc_din (hu:X.A.units+1<cLine) (hi:PE X i ty) (ho:PE X o td):PC X .In i o (tDIn ty td):=by
 intro pins s σ H Q I h
 refine thn (hi pins s σ H _ I h) fun iv s1 ⟨y,H1,I1,ry,q1⟩=>thn (ho pins s1 σ H1 _ I1 q1) fun u s2 ⟨x,H2,I2,rx,a,ov,ex,g,q2⟩=>?_
 subst ex
 obtain rfl:u=Value.ref a:=rx
 exact d_in hu I2 g ry fun s3 I3=>⟨.bl ov.isSome,H2,I3,rfl,q2⟩
theorem ps_dput (hu:X.A.units+1<cLine) (ho:PE X o td) (hi:PE X i ty) (hv:PE X value tv) (hs:swapsWith value (some (.Subscript o i pos')) pos.line X.env=pure false) :
  PS X (.Assign [.Subscript o i pos'] value pos) (sDPut td ty tv):=by
 intro pins s σ H D I h
 refine wpAny_Assign_Subscript (thn (hv pins s σ H _ I h) fun r s1 ⟨v,H1,I1,rv,q1⟩=>thn (ho pins s1 σ H1 _ I1 q1) fun u s2 ⟨x,H2,I2,rx,q2⟩=>thn (hi pins s2 σ H2 _ I2 q2) fun iv s3 ⟨y,H3,I3,ry,a,H4,ex,g,q3⟩=>?_) hs
 subst ex
 obtain rfl:u=Value.ref a:=rx
 exact d_setItem hu I3 g ry rv fun s4 I4=>⟨σ,H4,I4,q3⟩
end
theorem dt_empty {P:Program} {w:World} {H:Hp} (h:Heap) (hb:sysModules<h.objs.size):ObjOk P w H (h.push { cls:=.type "dict",data:=.dict #[] }) h.objs.size (.dT []):=
 ⟨Nat.zero_le _,beq_eq_false_iff_ne.mpr (Ne.symm (Nat.ne_of_lt hb)),[],.nil,_,#[],0,Heap.get?_push_size _ rfl,⟨rfl,rfl,rfl⟩,rfl,rfl,List.nodup_nil⟩
def tDNewT:TE:=fun _ H Q=>∀p,H p=none->Q (.ref p) (upd H p (.dT []))
section
variable {X:Cx} {pos:Pos}
theorem pe_dnewT:PE X (.Dict [] [] pos) tDNewT:=fun pins s σ H Q I h=>
 wpAny_Dict_empty ⟨.ref s.heap.objs.size,_,I.laid (a:=s.heap.objs.size) (o:=.dT []) (t':=s.toks) (fun _ _ q=>Heap.get?_push_of_some _ q) (Nat.le_refl _) (dt_empty s.heap I.big),rfl,h _ (I.hok.fresh (Nat.le_refl _))⟩
end
abbrev vbm:List Value:=[.type "ValueError",.type "Exception",.type "BaseException",.type "object"]
structure XCl (K:PySem.W.Frag) (mg:Str->Option Value) (x:Str) (C:Addr):Prop where
 m:mg x=some (.ref C)
 ok:PySem.W.excIn K C vbm "ValueError.__new__"=true
theorem XCl.own {K:PySem.W.Frag} {mg:Str->Option Value} {x:Str} {C:Addr} {h:Heap} (c:XCl K mg x C) (I:K.In h):OwnCls x C vbm "ValueError.__new__" mg h:=by
 have q:=c.ok
 refine ⟨c.m,?_⟩
 unfold PySem.W.excIn at q
 cases ho:K.lookup C with
 | none=>rw [ho] at q;cases q
 | some o=>
  rw [ho] at q
  obtain ⟨oc,dd,od,sl⟩:=o
  split at q
  ·rename_i dd' cd sl' eo
   cases eo
   obtain ⟨l⟩:=sl
   split at q
   ·rename_i C' bm k0 k1 k2 k3 n k5 em es
    obtain ⟨nm,bs,mro,ns,qn,hd,sn,sb,ab,col,del⟩:=cd
    simp only [Bool.and_eq_true,beq_iff_eq,Bool.not_eq_true'] at q em es
    obtain ⟨⟨⟨⟨⟨e1,e2⟩,e3⟩,e4⟩,e5⟩,e6⟩:=q
    subst em e1 e2 e3 es
    exact ⟨bm,ns,nm,qn,bs,hd,sn,sb,ab,col,dd,k0,k1,k2,k3,k5,_,I _ _ ho,.of_isNs (PySem.W.isNs_of_in I e5),PySem.W.nsMap_none_of_in I e5 e6,PySem.W.tail_of_in I e4⟩
   ·cases q
  ·cases q
def IsExc (a C:Addr):Heap->Prop:=fun h=>∃o,h.get? a=some o/\o.cls=.ref C/\∃vs,o.data=.fields vs
abbrev XO (a C:Addr):HO:=.ext (IsExc a C)
structure XF (K:PySem.W.Frag) (C:Addr):Prop where
 ok:PySem.W.excIn K C vbm "ValueError.__new__"=true
 ga:PySem.W.findIn K (.ref C) "__getattribute__"=some (some (.builtin "BaseException.__getattribute__"))
 gx:PySem.W.findIn K (.ref C) "__getattr__"=some none
 cl:PySem.W.findIn K (.ref C) "__class__"=some (some (.builtin "object.__class__"))
section
variable {prog:Program} {w:World} {A:Around} {E:Value->Shared->Prop} {h:Heap} {g:Array GenState} {d:Drawn} {t:Nat} {os:OsState} {a C:Addr} {o:Obj} {K:PySem.W.Frag}
theorem xc_get {R:Result->Shared->Prop} (f:XF K C) (I:K.In h) (hx:h.get? a=some o) (hc:o.cls=.ref C) (hq:R (.ok (.ret (.ref C))) ⟨h,g,d,t,os⟩) :
  codeAny (model prog w) A (.call (.builtin "getset_descriptor.__get__") ⟨[.builtin "object.__class__",.ref a,.ref C],[]⟩) R ⟨h,g,d,t,os⟩:=by
 obtain ⟨m0,n0,nm0,q0,b0,d0,s0,u0,a0,c0,dd0,j0,j1,j2,j3,j5,f0,hD,hN,hni,T⟩:=(XCl.own (mg:=fun _=>some (.ref C)) (x:="x") ⟨rfl,f.ok⟩ I).obj
 have gsd:Shared.TypeIs ⟨h,g,d,t,os⟩ (.builtin "object.__class__") "getset_descriptor":=F.typeOf_object_class
 have hcO:(Value.ref C::m0).contains (.type (".".intercalate ("object.__class__".cutAt '.').dropLast))=true:=by
  rw [F.owner_object_class,List.contains_cons,T.hasType (b:=true) (by decide)];rfl
 refine codeAny_call_builtin F.slot_gs_get.plain F.entry_gs_get (F.slot_gs_get.check _ _ _ _ _ _ _ _ gsd (F.args_gs_get _ _ _) ?_)
 repeat (any_goals (first|assumption|(with_reducible refine wpAny_loadPart_at hx ?_;rw [hc])|(with_reducible refine wpAny_isSubtype_exc hD ?_;rw [hcO])|wp_step))
 refine ⟨Code.quiet_builtin _ (by decide +kernel),?_⟩
 refine codeAny_builtin F.entry_object_class ?_
 repeat (any_goals (first|assumption|(with_reducible refine wpAny_loadPart_at hx ?_;rw [hc])|wp_step))
theorem xc_look {n:Str} {r:Option Value} {Q:Option Value->Shared->Prop} (I:K.In h) (e:PySem.W.findIn K (.ref C) n=some r) (hq:Q r ⟨h,g,d,t,os⟩):wpAny (model prog w) A (typeLookup (.ref C) n) Q E ⟨h,g,d,t,os⟩:=
 PySem.W.looks_findIn (M:=model prog w) I e A Q E ⟨h,g,d,t,os⟩ (fun _ _ z=>z) hq
theorem xc_entry {tk:Tok} {Q:Fin->Shared->Prop} (f:XF K C) (I:K.In h) (hx:h.get? a=some o) (hc:o.cls=.ref C) (hq:Q (.done (.ret (.ref C))) ⟨h,g,d,t,os⟩):wpAny (model prog w) A (Builtin.«object.__getattribute__» ⟨[.ref a,.str "__class__" tk],[]⟩) Q E ⟨h,g,d,t,os⟩:=by
 have gsd:Shared.TypeIs ⟨h,g,d,t,os⟩ (.builtin "object.__class__") "getset_descriptor":=F.typeOf_object_class
 have g5:=F.typeOf_object_class;have g6:=F.slot_gs_get.lookup;have g7:=F.slot_gs_set.lookup
 repeat (any_goals (first|assumption|(with_reducible refine wpAny_loadPart_at hx ?_;rw [hc])|with_reducible refine xc_look I f.cl ?_|wp_step))
 refine xc_get f I hx hc ?_
 repeat any_goals first|assumption|wp_step
theorem xc_check {M:Model} {nameV:Value} {Q:Unit->Shared->Prop} (f:XF K C) (I:K.In h) (hx:h.get? a=some o) (hc:o.cls=.ref C) (hq:Q () ⟨h,g,d,t,os⟩) :
  wpAny M A (checkBuiltinCall "BaseException.__getattribute__" ⟨[.ref a,nameV],[]⟩) Q E ⟨h,g,d,t,os⟩:=by
 obtain ⟨m0,n0,nm0,q0,b0,d0,s0,u0,a0,c0,dd0,j0,j1,j2,j3,j5,f0,hD,hN,hni,T⟩:=(XCl.own (mg:=fun _=>some (.ref C)) (x:="x") ⟨rfl,f.ok⟩ I).obj
 have k1:builtinKind "BaseException.__getattribute__"=some .slot:=by decide +kernel
 have k2:splitId "BaseException.__getattribute__"=some ("BaseException","__getattribute__"):=by decide +kernel
 have hcO:(Value.ref C::m0).contains (.type "BaseException")=true:=by rw [List.contains_cons,T.hasType F.excBase_ValueError.hasBase];rfl
 have hargs:=F.args_bexc_ga (.ref a) nameV
 simp only [checkBuiltinCall,k1,k2]
 refine wpAny_bind ?_
 ·unfold isInstance
  repeat (first|(with_reducible refine wpAny_loadPart_at hx ?_;rw [hc])|(with_reducible refine wpAny_isSubtype_exc hD ?_;rw [hcO])|wp_step)
  exact hq
theorem xc_call {tk:Tok} {R:Result->Shared->Prop} (f:XF K C) (I:K.In h) (hx:h.get? a=some o) (hc:o.cls=.ref C) (hq:R (.ok (.ret (.ref C))) ⟨h,g,d,t,os⟩) :
  codeAny (model prog w) A (.call (.builtin "BaseException.__getattribute__") ⟨[.ref a,.str "__class__" tk],[]⟩) R ⟨h,g,d,t,os⟩:=
 codeAny_call_builtin F.attrBase_ValueError.ga.plain F.entry_bexc_ga (xc_check f I hx hc (xc_entry f I hx hc hq))
theorem xc_by {tk:Tok} {Q:Value->Shared->Prop} (f:XF K C) (I:K.In h) (hx:h.get? a=some o) (hc:o.cls=.ref C) (hq:Q (.ref C) ⟨h,g,d,t,os⟩):wpAny (model prog w) A (getAttrBy (.ref a) (.str "__class__" tk) false) Q E ⟨h,g,d,t,os⟩:=by
 have f3:=F.attrBase_ValueError.ga.bind (.ref a)
 have z2:(Value.builtin "BaseException.__getattribute__" == Value.builtin "object.__getattribute__")=false:=by decide +kernel
 have z1:(onTheHeap (Value.ref C) && Value.builtin "BaseException.__getattribute__" == Value.builtin "object.__getattribute__")=false:=by rw [z2];rfl
 repeat (any_goals (first|assumption|(with_reducible refine wpAny_loadPart_at hx ?_;rw [hc])|with_reducible refine xc_look I f.ga ?_|with_reducible refine xc_look I f.gx ?_|wp_step))
 refine xc_call f I hx hc ?_
 repeat any_goals first|assumption|wp_step
theorem xc_attr {Q:Option Value->Shared->Prop} (f:XF K C) (I:K.In h) (hx:h.get? a=some o) (hc:o.cls=.ref C) (hq:Q (some (.ref C)) ⟨h,g,d,t+1,os⟩):wpAny (model prog w) A (getAttr? (.ref a) "__class__") Q E ⟨h,g,d,t,os⟩:=by
 unfold getAttr? getAttrBy?
 repeat (any_goals (first|assumption|with_reducible apply xc_by f I hx hc|wp_step))
end
theorem kitx_exc {K:PySem.W.Frag} {a C:Addr} (f:XF K C):PySem.W.KitX K (.ref a) (.ref C) (IsExc a C) where
 ty:=fun M h _ ⟨o,h1,h2,_⟩=>h2▸(PySem.W.Looks.ld h1).andThen .now
 it:=fun M h I _=>by
  obtain ⟨m0,n0,nm0,q0,b0,d0,s0,u0,a0,c0,dd0,j0,j1,j2,j3,j5,f0,hD,_⟩:=(XCl.own (mg:=fun _=>some (.ref C)) (x:="x") ⟨rfl,f.ok⟩ I).obj
  intro A' Q' E' s' k q
  unfold isType loadHead
  exact wpAny_bind (wpAny_loadPart (k _ _ hD) (wpAny_pure q))
 ne:=fun h tp dd its n sl I htp=>by
  obtain ⟨m0,n0,nm0,q0,b0,d0,s0,u0,a0,c0,dd0,j0,j1,j2,j3,j5,f0,hD,_⟩:=(XCl.own (mg:=fun _=>some (.ref C)) (x:="x") ⟨rfl,f.ok⟩ I).obj
  refine Bool.eq_false_iff.mpr fun q=>?_
  have e:C=tp:=Value.ref.inj (beq_iff_eq.mp q)
  subst e
  rw [hD] at htp
  have:=congrArg (fun o=>o.map (·.cls)) htp
  simp at this
 ca:=fun {_ _ _ _ _ s} I ⟨o,h1,h2,_⟩ k=>by obtain ⟨h,g,d,t,os⟩:=s;exact xc_attr f I h1 h2 k
section
variable {prog:Program} {w:World} {A:Around} {E:Value->Shared->Prop} {h:Heap} {g:Array GenState} {d:Drawn} {t:Nat} {os:OsState} {a:Addr} {o:Obj}
theorem xb_get {R:Result->Shared->Prop} (hx:h.get? a=some o) (hc:o.cls=.type "ValueError") (hq:R (.ok (.ret (.type "ValueError"))) ⟨h,g,d,t,os⟩) :
  codeAny (model prog w) A (.call (.builtin "getset_descriptor.__get__") ⟨[.builtin "object.__class__",.ref a,.type "ValueError"],[]⟩) R ⟨h,g,d,t,os⟩:=by
 have ty:Shared.TypeIs ⟨h,g,d,t,os⟩ (.ref a) "ValueError":=⟨_,hx,hc⟩
 have gsd:Shared.TypeIs ⟨h,g,d,t,os⟩ (.builtin "object.__class__") "getset_descriptor":=F.typeOf_object_class
 have so:isSubtype (.type "ValueError") (.type (".".intercalate ("object.__class__".cutAt '.').dropLast))=pure true:=by rw [F.owner_object_class,isSubtype_type];kernel_rfl
 refine codeAny_call_builtin F.slot_gs_get.plain F.entry_gs_get (F.slot_gs_get.check _ _ _ _ _ _ _ _ gsd (F.args_gs_get _ _ _) ?_)
 repeat any_goals first|assumption|wp_step
 refine ⟨Code.quiet_builtin _ (by decide +kernel),?_⟩
 refine codeAny_builtin F.entry_object_class ?_
 repeat any_goals first|assumption|wp_step
theorem xb_entry {tk:Tok} {Q:Fin->Shared->Prop} (hx:h.get? a=some o) (hc:o.cls=.type "ValueError") (hq:Q (.done (.ret (.type "ValueError"))) ⟨h,g,d,t,os⟩):wpAny (model prog w) A (Builtin.«object.__getattribute__» ⟨[.ref a,.str "__class__" tk],[]⟩) Q E ⟨h,g,d,t,os⟩:=by
 have ty:Shared.TypeIs ⟨h,g,d,t,os⟩ (.ref a) "ValueError":=⟨_,hx,hc⟩
 have gsd:Shared.TypeIs ⟨h,g,d,t,os⟩ (.builtin "object.__class__") "getset_descriptor":=F.typeOf_object_class
 have g4:typeLookup (.type "ValueError") "__class__"=pure (some (.builtin "object.__class__")):=by rw [typeLookup_type,builtinLookup_eq_fast];kernel_rfl
 have g5:=F.typeOf_object_class;have g6:=F.slot_gs_get.lookup;have g7:=F.slot_gs_set.lookup
 repeat any_goals first|assumption|wp_step
 refine xb_get hx hc ?_
 repeat any_goals first|assumption|wp_step
theorem xb_call {tk:Tok} {R:Result->Shared->Prop} (hx:h.get? a=some o) (hc:o.cls=.type "ValueError") (hq:R (.ok (.ret (.type "ValueError"))) ⟨h,g,d,t,os⟩) :
  codeAny (model prog w) A (.call (.builtin "BaseException.__getattribute__") ⟨[.ref a,.str "__class__" tk],[]⟩) R ⟨h,g,d,t,os⟩:=
 codeAny_call_builtin F.excAttr_ValueError.ga.plain F.entry_bexc_ga (F.excAttr_ValueError.ga.check _ _ _ _ _ _ _ _ (show Shared.TypeIs ⟨h,g,d,t,os⟩ (.ref a) "ValueError" from ⟨_,hx,hc⟩) (F.args_bexc_ga _ _) (xb_entry hx hc hq))
theorem xb_by {tk:Tok} {Q:Value->Shared->Prop} (hx:h.get? a=some o) (hc:o.cls=.type "ValueError") (hq:Q (.type "ValueError") ⟨h,g,d,t,os⟩):wpAny (model prog w) A (getAttrBy (.ref a) (.str "__class__" tk) false) Q E ⟨h,g,d,t,os⟩:=by
 have ty:Shared.TypeIs ⟨h,g,d,t,os⟩ (.ref a) "ValueError":=⟨_,hx,hc⟩
 have g2:=F.excAttr_ValueError.ga.lookup;have g3:=F.excAttr_ValueError.ga.bind (.ref a)
 repeat any_goals first|assumption|wp_step
 refine xb_call hx hc ?_
 repeat any_goals first|assumption|wp_step
theorem xb_attr {Q:Option Value->Shared->Prop} (hx:h.get? a=some o) (hc:o.cls=.type "ValueError") (hq:Q (some (.type "ValueError")) ⟨h,g,d,t+1,os⟩):wpAny (model prog w) A (getAttr? (.ref a) "__class__") Q E ⟨h,g,d,t,os⟩:=by
 unfold getAttr? getAttrBy?
 repeat any_goals first|assumption|with_reducible apply xb_by hx hc|wp_step
end
theorem kitx_exb {K:PySem.W.Frag} {a:Addr}:PySem.W.KitX K (.ref a) (.type "ValueError") (PySem.W.KitAt a "ValueError"):=
 PySem.W.kitx_of PySem.W.kitAt_ty fun {_ _ _ _ _ s} ⟨o,h1,h2⟩ k=>by obtain ⟨h,g,d,t,os⟩:=s;exact xb_attr h1 h2 k
abbrev XB (a:Addr):HO:=.ext (PySem.W.KitAt a "ValueError")
section
variable {X:Cx} {σ:St} {H:Hp}
def TyX (K:PySem.W.Frag) (H:Hp) (v:V) (t:Value):Prop:=TyOf K H v t\/∃a Cl,v=.ref a/\(H a=some (XO a Cl)/\t=.ref Cl/\XF K Cl\/H a=some (XB a)/\t=.type "ValueError")
theorem ty_kit {pins:List (Addr × Obj)} {s:Shared} {v:V} {u t:Value} (I:Inv X pins σ H s) (rx:RelV v u) (ty:TyX X.K H v t):∃φ:Heap->Prop,PySem.W.KitX X.K u t φ/\φ s.heap/\u≠.builtin "__main__.__loader__#opaque":=by
 rcases ty with ty|⟨a,Cl,rfl,⟨ha,rfl,xf⟩|⟨ha,rfl⟩⟩
 ·cases ty with
  | non=>cases (show u=Value.none from rx);exact ⟨_,PySem.W.kitx_none,trivial,fun z=>nomatch z⟩
  | bl y=>cases (show u=Value.bool y from rx);exact ⟨_,PySem.W.kitx_bool,trivial,fun z=>nomatch z⟩
  | int i=>obtain ⟨_,q⟩:=(show ∃t,u=Value.int i t from rx);cases q;exact ⟨_,PySem.W.kitx_int,trivial,fun z=>nomatch z⟩
  | str y=>obtain ⟨_,q⟩:=(show ∃t,u=Value.str y t from rx);cases q;exact ⟨_,PySem.W.kitx_str,trivial,fun z=>nomatch z⟩
  | flt y=>obtain ⟨_,q⟩:=(show ∃t,u=Value.float y t from rx);cases q;exact ⟨_,PySem.W.kitx_float,trivial,fun z=>nomatch z⟩
  | @lst a xs ea=>
   cases (show u=Value.ref a from rx)
   obtain ⟨_,_,n,_,h1⟩:=(show ObjOk X.prog X.w H s.heap a (.lst xs) from I.hok a _ ea)
   exact ⟨_,PySem.W.kitx_list,⟨_,h1,rfl⟩,fun z=>nomatch z⟩
  | @frz a ob xs ea=>
   cases (show u=Value.ref a from rx)
   obtain ⟨_,_,_,n,_,h1⟩:=(show ObjOk X.prog X.w H s.heap a (.frz ob (.lst xs)) from I.hok a _ ea)
   exact ⟨_,PySem.W.kitx_list,⟨_,h1,rfl⟩,fun z=>nomatch z⟩
  | @tup a xs ea=>
   cases (show u=Value.ref a from rx)
   obtain ⟨_,_,_,o,h1,h2,_⟩:=(show ObjOk X.prog X.w H s.heap a (.tup xs) from I.hok a _ ea)
   exact ⟨_,PySem.W.kitx_tuple,⟨o,h1,h2⟩,fun z=>nomatch z⟩
  | @dK a kvs ea=>
   cases (show u=Value.ref a from rx)
   obtain ⟨_,_,vs,_,o,es,ep,h1,h2,_⟩:=(show ObjOk X.prog X.w H s.heap a (.dK kvs) from I.hok a _ ea)
   exact ⟨_,PySem.W.kitx_dict,⟨o,h1,h2.1⟩,fun z=>nomatch z⟩
  | @dT a kvs ea=>
   cases (show u=Value.ref a from rx)
   obtain ⟨_,_,xs,_,o,es,ep,h1,h2,_⟩:=(show ObjOk X.prog X.w H s.heap a (.dT kvs) from I.hok a _ ea)
   exact ⟨_,PySem.W.kitx_dict,⟨o,h1,h2.1⟩,fun z=>nomatch z⟩
  | @ins a C dx fs ea cl ha hn htk hm=>
   cases (show u=Value.ref a from rx)
   obtain ⟨mA,O,_⟩:=ins_get I.hok ea
   obtain ⟨od,J,_⟩:=O.look
   exact ⟨_,PySem.W.kitx_own (cl.get _) cl.hd ha hn htk hm,J,fun z=>nomatch z⟩
 ·cases (show u=Value.ref a from rx)
  obtain ⟨φ,_,_⟩:=(show ObjOk X.prog X.w H s.heap a (XO a Cl) from I.hok a _ ha)
  exact ⟨_,kitx_exc xf,φ,fun z=>nomatch z⟩
 ·cases (show u=Value.ref a from rx)
  obtain ⟨φ,_,_⟩:=(show ObjOk X.prog X.w H s.heap a (XB a) from I.hok a _ ha)
  exact ⟨_,kitx_exb,φ,fun z=>nomatch z⟩
theorem isX_ok {pins:List (Addr × Obj)} {s:Shared} {A:Around} {E:Value->Shared->Prop} {Q:Value->Shared->Prop} {v:V} {u t c:Value} {k:Bool} (I:Inv X pins σ H s) (rx:RelV v u) (ty:TyX X.K H v t) (e:PySem.W.kitOne X.K t c=some k)
  (h:∀tk,Q (.bool k) { s with toks:=tk }):wpAny (model X.prog X.w) A (call (.builtin "isinstance") [u,c]) Q E s:=by
 obtain ⟨φ,Z,hz,ne⟩:=ty_kit I rx ty
 exact PySem.W.kia_one Z I.kIn hz e ne h
def rIsX (K:PySem.W.Frag):List V->Hp->VK->Prop:=fun vs H Q=>∃v y c t k,vs=[v,y]/\(∀u,RelV y u->u=c)/\TyX K H v t/\PySem.W.kitOne K t c=some k/\Q (.bl k) H
theorem call_isX {K:PySem.W.Frag} (hK:X.K=K):CallR X (.builtin "isinstance") (rIsX K):=fun pins s σ H vs us Q I r ⟨v,y,c,t,k,e,hc,ty,ek,q⟩=>by
 subst e
 cases r with
 | cons r1 r2=>
  cases r2 with
  | cons r3 r4=>
   cases r4
   rw [hc _ r3]
   rw [<-hK] at ty ek
   exact isX_ok I r1 ty ek fun tk=>⟨.bl k,H,I.tok tk,rfl,q⟩
end
inductive D where
 | non|bl (b:Bool)|int (i:Int)|str (x:Str)|lst (xs:List D)|tup (xs:List D)|atom (v:V)|scr (ns:List Int)|dic (ks:List Key) (ds:List D)|exc (C:Addr)|exb
mutual
inductive Rep (K:PySem.W.Frag) (F:Hp):D->V->Prop
 | non:Rep K F .non .non
 | bl (b:Bool):Rep K F (.bl b) (.bl b)
 | int (i:Int):Rep K F (.int i) (.int i)
 | str (x:Str):Rep K F (.str x) (.str x)
 | atom (v:V):Rep K F (.atom v) v
 | lst {a:Addr} {vs:List V} {ds:List D}:F a=some (.lst vs)->RepL K F ds vs->Rep K F (.lst ds) (.ref a)
 | tup {a:Addr} {vs:List V} {ds:List D}:F a=some (.tup vs)->RepL K F ds vs->Rep K F (.tup ds) (.ref a)
 | scr {a:Addr} {ns:List Int}:SqL K F a (ns.map V.int)->Rep K F (.scr ns) (.ref a)
 | dic {a:Addr} {ks:List Key} {vs:List V} {ds:List D}:F a=some (.dK (ks.zip vs))->ks.length=vs.length->RepL K F ds vs->Rep K F (.dic ks ds) (.ref a)
 | exc {a C:Addr}:F a=some (XO a C)->Rep K F (.exc C) (.ref a)
 | exb {a:Addr}:F a=some (XB a)->Rep K F .exb (.ref a)
inductive RepL (K:PySem.W.Frag) (F:Hp):List D->List V->Prop
 | nil:RepL K F [] []
 | cons {d:D} {v:V} {ds:List D} {vs:List V}:Rep K F d v->RepL K F ds vs->RepL K F (d::ds) (v::vs)
end
mutual
theorem Rep.mono {K:PySem.W.Frag} {F F':Hp} (h:Same F F'):∀{d:D} {v:V},Rep K F d v->Rep K F' d v
 | _,_,.non=>.non
 | _,_,.bl b=>.bl b
 | _,_,.int i=>.int i
 | _,_,.str x=>.str x
 | _,_,.atom v=>.atom v
 | _,_,.lst q r=>.lst (h _ _ q) (RepL.mono h r)
 | _,_,.tup q r=>.tup (h _ _ q) (RepL.mono h r)
 | _,_,.scr q=>.scr (h.seq q)
 | _,_,.dic q l r=>.dic (h _ _ q) l (RepL.mono h r)
 | _,_,.exc q=>.exc (h _ _ q)
 | _,_,.exb q=>.exb (h _ _ q)
theorem RepL.mono {K:PySem.W.Frag} {F F':Hp} (h:Same F F'):∀{ds:List D} {vs:List V},RepL K F ds vs->RepL K F' ds vs
 | _,_,.nil=>.nil
 | _,_,.cons r t=>.cons (Rep.mono h r) (RepL.mono h t)
end
section
variable {K:PySem.W.Frag} {F:Hp}
theorem RepL.length:∀{ds:List D} {vs:List V},RepL K F ds vs->ds.length=vs.length
 | _,_,.nil=>rfl
 | _,_,.cons _ t=>by rw [List.length_cons,List.length_cons,RepL.length t]
theorem RepL.get:∀{ds:List D} {vs:List V} {i:Nat} {d:D},RepL K F ds vs->ds[i]? = some d->∃v,vs[i]? = some v/\Rep K F d v
 | _,_,_,_,.nil,e=>by simp at e
 | _,_,0,_,.cons r _,e=>by simp at e;subst e;exact ⟨_,rfl,r⟩
 | _,_,i+1,d,.cons _ t,e=>by
  obtain ⟨u,h1,h2⟩:=RepL.get (i:=i) (d:=d) t (by simpa using e)
  exact ⟨u,by simpa using h1,h2⟩
theorem RepL.set {d:D} {v:V} (r:Rep K F d v):∀{ds:List D} {vs:List V} (i:Nat),RepL K F ds vs->RepL K F (ds.set i d) (vs.set i v)
 | _,_,_,.nil=>.nil
 | _,_,0,.cons _ t=>.cons r t
 | _,_,i+1,.cons q t=>.cons q (RepL.set r i t)
theorem RepL.append:∀{ds es:List D} {vs us:List V},RepL K F ds vs->RepL K F es us->RepL K F (ds++es) (vs++us)
 | _,_,_,_,.nil,s=>s
 | _,_,_,_,.cons r t,s=>.cons r (RepL.append t s)
theorem RepL.take:∀{ds:List D} {vs:List V} (n:Nat),RepL K F ds vs->RepL K F (ds.take n) (vs.take n)
 | _,_,0,_=>.nil
 | _,_,_+1,.nil=>.nil
 | _,_,n+1,.cons r t=>.cons r (RepL.take n t)
theorem RepL.drop:∀{ds:List D} {vs:List V} (n:Nat),RepL K F ds vs->RepL K F (ds.drop n) (vs.drop n)
 | _,_,0,r=>r
 | _,_,_+1,.nil=>.nil
 | _,_,n+1,.cons _ t=>RepL.drop n t
theorem RepL.reverse:∀{ds:List D} {vs:List V},RepL K F ds vs->RepL K F ds.reverse vs.reverse
 | _,_,.nil=>.nil
 | _,_,.cons r t=>by
  rw [List.reverse_cons,List.reverse_cons]
  exact (RepL.reverse t).append (.cons r .nil)
theorem RepL.rep {ds:List D} {vs:List V} (r:RepL K F ds vs):∀n:Nat,RepL K F (List.replicate n ds).flatten (List.replicate n vs).flatten
 | 0=>.nil
 | n+1=>by
  rw [List.replicate_succ,List.replicate_succ,List.flatten_cons,List.flatten_cons]
  exact r.append (RepL.rep r n)
theorem RepL.ints:∀{ns:List Int} {vs:List V},RepL K F (ns.map D.int) vs->vs=ns.map V.int
 | [],_,.nil=>rfl
 | _::r,_,.cons q t=>by
  cases q
  rw [List.map_cons,RepL.ints (ns:=r) t]
theorem RepL.of_ints:∀(ns:List Int),RepL K F (ns.map D.int) (ns.map V.int)
 | []=>.nil
 | n::r=>.cons (.int n) (RepL.of_ints r)
end
inductive Sl where
 | d (x:D)|own (xs:List D)|bor (xs:List D)
abbrev PSt:=List (Option Sl)
inductive Ev where
 | fz (x:D)|ow (i:Nat)
def Sl.val:Sl->D
 | .d x=>x
 | .own xs=>.lst xs
 | .bor xs=>.lst xs
def Sl.put (ys:List D):Sl->Sl
 | .own _=>.own ys
 | .bor _=>.bor ys
 | .d x=>.d x
def Sl.mu:Sl->Bool
 | .d _=>false
 | .own _=>true
 | .bor _=>true
def Sl.ev (i:Nat):Sl->Ev
 | .d x=>.fz x
 | .own _=>.ow i
 | .bor _=>.ow i
def lk (p:PSt):Ev->D
 | .fz x=>x
 | .ow i=>match p[i]? with
  | some (some s)=>s.val
  | _=>.non
inductive Rt where
 | rd (x:D)|ro (xs:List D)
def Rt.val:Rt->D
 | .rd x=>x
 | .ro xs=>.lst xs
def Rt.sl:Rt->Sl
 | .rd x=>.d x
 | .ro xs=>.own xs
structure Pc where
 K:PySem.W.Frag
 F0:Hp
 H0:Hp
 bs:List (Nat × Addr)
def SlRel (C:Pc) (F H:Hp):Sl->V->Prop
 | .d x,v=>Rep C.K F x v
 | .own xs,v=>∃a vs,v=.ref a/\F a=none/\C.H0 a=none/\H a=some (.lst vs)/\RepL C.K F xs vs
 | .bor xs,v=>∃a vs,v=.ref a/\F a=none/\(∃q∈C.bs,q.2=a)/\H a=some (.lst vs)/\RepL C.K F xs vs
structure RS (C:Pc) (p:PSt) (σ:St) (F H:Hp):Prop where
 sub:Same F H
 ext:Same C.F0 F
 new:∀a o,F a=some o->C.F0 a=some o\/C.H0 a=none\/∃xs,o=.tup xs
 keep:∀a o,C.H0 a=some o->(∀q∈C.bs,q.2≠a)->H a=some o
 grow:∀a,C.H0 a≠none->H a≠none
 len:p.length=σ.length
 sl:∀(i:Nat) (s:Sl),p[i]? = some (some s)->∃v,σ[i]? = some (some v)/\SlRel C F H s v
 apart:∀(i j:Nat) (s s':Sl) (a:Addr),i≠j->p[i]? = some (some s)->s.mu=true->p[j]? = some (some s')->s'.mu=true->σ[i]? = some (some (.ref a))->σ[j]? = some (some (.ref a))->False
 pin:∀q∈C.bs,σ[q.1]? = some (some (.ref q.2))/\∃xs,p[q.1]? = some (some (.bor xs))
def Shp (p p1:PSt):Prop:=p1.length=p.length/\∀(i:Nat) (s:Sl),p[i]? = some (some s)->s.mu=true->∃s1,p1[i]? = some (some s1)/\s1.mu=true
theorem Shp.refl (p:PSt):Shp p p:=⟨rfl,fun _ s h m=>⟨s,h,m⟩⟩
theorem Shp.trans {p p1 p2:PSt} (a:Shp p p1) (b:Shp p1 p2):Shp p p2:=⟨b.1.trans a.1,fun i s h m=>let ⟨s1,h1,m1⟩:=a.2 i s h m;b.2 i s1 h1 m1⟩
def EvR (K:PySem.W.Frag) (p:PSt) (σ:St) (F:Hp):Ev->V->Prop
 | .fz x,v=>Rep K F x v
 | .ow i,v=>(∃s,p[i]? = some (some s)/\s.mu=true)/\σ[i]? = some (some v)
theorem EvR.mono {K:PySem.W.Frag} {p p1:PSt} {σ:St} {F F1:Hp} {e:Ev} {v:V} (h:EvR K p σ F e v) (s:Same F F1) (sh:Shp p p1):EvR K p1 σ F1 e v:=by
 cases e with
 | fz x=>exact Rep.mono s h
 | ow i=>exact ⟨let ⟨⟨s,h1,m⟩,_⟩:=h;sh.2 i s h1 m,h.2⟩
abbrev TQ:=PSt->(Ev->PSt->Prop)->Prop
abbrev TN:=PSt->(Rt->PSt->Prop)->Prop
abbrev TTQ:=PSt->(Bool->PSt->Prop)->Prop
abbrev TAQ:=PSt->(List Ev->PSt->Prop)->Prop
def Mine (p:PSt) (σ:St) (a:Addr):Prop:=∀(i:Nat) (s:Sl),p[i]? = some (some s)->s.mu=true->σ[i]?≠some (some (.ref a))
def RtR (C:Pc) (p:PSt) (σ:St) (F H:Hp):Rt->V->Prop
 | .rd x,v=>Rep C.K F x v
 | .ro xs,v=>∃a vs,v=.ref a/\F a=none/\C.H0 a=none/\H a=some (.lst vs)/\RepL C.K F xs vs/\Mine p σ a
def XQ (C:Pc) (p:PSt) (σ:St) (F:Hp) (R:Ev->PSt->Prop) (v:V) (H1:Hp):Prop:=∃e p1 F1,RS C p1 σ F1 H1/\Same F F1/\Shp p p1/\EvR C.K p1 σ F1 e v/\R e p1
def XN (C:Pc) (p:PSt) (σ:St) (F:Hp) (R:Rt->PSt->Prop) (v:V) (H1:Hp):Prop:=∃r p1 F1,RS C p1 σ F1 H1/\Same F F1/\Shp p p1/\RtR C p1 σ F1 H1 r v/\R r p1
def XT (C:Pc) (p:PSt) (σ:St) (F:Hp) (R:Bool->PSt->Prop) (b:Bool) (H1:Hp):Prop:=∃p1 F1,RS C p1 σ F1 H1/\Same F F1/\Shp p p1/\R b p1
inductive EvRs (K:PySem.W.Frag) (p:PSt) (σ:St) (F:Hp):List Ev->List V->Prop
 | nil:EvRs K p σ F [] []
 | cons {e v es vs}:EvR K p σ F e v->EvRs K p σ F es vs->EvRs K p σ F (e::es) (v::vs)
def XA (C:Pc) (p:PSt) (σ:St) (F:Hp) (R:List Ev->PSt->Prop) (vs:List V) (H1:Hp):Prop:=∃es p1 F1,RS C p1 σ F1 H1/\Same F F1/\Shp p p1/\EvRs C.K p1 σ F1 es vs/\R es p1
def Up (C:Pc) (t:TQ):TE:=fun σ H Q=>∃p F R,RS C p σ F H/\t p R/\∀v H1,XQ C p σ F R v H1->Q v H1
def UpN (C:Pc) (t:TN):TE:=fun σ H Q=>∃p F R,RS C p σ F H/\t p R/\∀v H1,XN C p σ F R v H1->Q v H1
def UpT (C:Pc) (t:TTQ):TT:=fun σ H Q=>∃p F R,RS C p σ F H/\t p R/\∀b H1,XT C p σ F R b H1->Q b H1
def UpA (C:Pc) (t:TAQ):TA:=fun σ H Q=>∃p F R,RS C p σ F H/\t p R/\∀vs H1,XA C p σ F R vs H1->Q vs H1
section
variable {X:Cx} {C:Pc} {p:PSt} {σ:St} {F H:Hp}
theorem QE.mk {e:Expr} {t:TE} {t':TQ} (h:PE X e t) (hi:∀p σ F H R,RS C p σ F H->t' p R->t σ H (XQ C p σ F R)):PE X e (Up C t'):=fun pins s σ H Q I ⟨p,F,R,rs,ht,hq⟩=>
 thn (h pins s σ H _ I (hi p σ F H R rs ht)) fun _ _ ⟨v,H1,I1,r1,q1⟩=>⟨v,H1,I1,r1,hq v H1 q1⟩
theorem QN.mk {e:Expr} {t:TE} {t':TN} (h:PE X e t) (hi:∀p σ F H R,RS C p σ F H->t' p R->t σ H (XN C p σ F R)):PE X e (UpN C t'):=fun pins s σ H Q I ⟨p,F,R,rs,ht,hq⟩=>
 thn (h pins s σ H _ I (hi p σ F H R rs ht)) fun _ _ ⟨v,H1,I1,r1,q1⟩=>⟨v,H1,I1,r1,hq v H1 q1⟩
theorem QT.mk {e:Expr} {t:TT} {t':TTQ} (h:PT X e t) (hi:∀p σ F H R,RS C p σ F H->t' p R->t σ H (XT C p σ F R)):PT X e (UpT C t'):=fun pins s σ H Q I ⟨p,F,R,rs,ht,hq⟩=>
 thn (h pins s σ H _ I (hi p σ F H R rs ht)) fun _ _ ⟨H1,I1,q1⟩=>⟨H1,I1,hq _ H1 q1⟩
theorem QW.mk {e:Expr} {t:TT} {t':TTQ} (h:PW X e t) (hi:∀p σ F H R,RS C p σ F H->t' p R->t σ H (XT C p σ F R)):PW X e (UpT C t'):=fun wh pins s σ H Q I ⟨p,F,R,rs,ht,hq⟩=>
 thn (h wh pins s σ H _ I (hi p σ F H R rs ht)) fun _ _ ⟨H1,I1,q1⟩=>⟨H1,I1,hq _ H1 q1⟩
theorem QA.mk {es:List Expr} {t:TA} {t':TAQ} (h:PA X es t) (hi:∀p σ F H R,RS C p σ F H->t' p R->t σ H (XA C p σ F R)):PA X es (UpA C t'):=fun pos pins s σ H Q I ⟨p,F,R,rs,ht,hq⟩=>
 thn (h pos pins s σ H _ I (hi p σ F H R rs ht)) fun _ _ ⟨vs,H1,I1,r1,q1⟩=>⟨vs,H1,I1,r1,hq vs H1 q1⟩
theorem up1 {ta:TQ} {R1:Ev->PSt->Prop} {Q:V->Hp->Prop} (rs:RS C p σ F H) (ht:ta p R1)
  (k:∀e p1 v F1 H1,RS C p1 σ F1 H1->Same F F1->Shp p p1->EvR C.K p1 σ F1 e v->R1 e p1->Q v H1):Up C ta σ H Q:=
 ⟨p,F,R1,rs,ht,fun v H1 ⟨e,p1,F1,rs1,s1,sh,er,q⟩=>k e p1 v F1 H1 rs1 s1 sh er q⟩
theorem upT1 {ta:TTQ} {R1:Bool->PSt->Prop} {Q:Bool->Hp->Prop} (rs:RS C p σ F H) (ht:ta p R1)
  (k:∀b p1 F1 H1,RS C p1 σ F1 H1->Same F F1->Shp p p1->R1 b p1->Q b H1):UpT C ta σ H Q:=
 ⟨p,F,R1,rs,ht,fun b H1 ⟨p1,F1,rs1,s1,sh,q⟩=>k b p1 F1 H1 rs1 s1 sh q⟩
theorem upN1 {ta:TN} {R1:Rt->PSt->Prop} {Q:V->Hp->Prop} (rs:RS C p σ F H) (ht:ta p R1)
  (k:∀r p1 v F1 H1,RS C p1 σ F1 H1->Same F F1->Shp p p1->RtR C p1 σ F1 H1 r v->R1 r p1->Q v H1):UpN C ta σ H Q:=
 ⟨p,F,R1,rs,ht,fun v H1 ⟨e,p1,F1,rs1,s1,sh,er,q⟩=>k e p1 v F1 H1 rs1 s1 sh er q⟩
theorem upA1 {ta:TAQ} {R1:List Ev->PSt->Prop} {Q:List V->Hp->Prop} (rs:RS C p σ F H) (ht:ta p R1)
  (k:∀es p1 vs F1 H1,RS C p1 σ F1 H1->Same F F1->Shp p p1->EvRs C.K p1 σ F1 es vs->R1 es p1->Q vs H1):UpA C ta σ H Q:=
 ⟨p,F,R1,rs,ht,fun v H1 ⟨e,p1,F1,rs1,s1,sh,er,q⟩=>k e p1 v F1 H1 rs1 s1 sh er q⟩
theorem up2 {ta tb:TQ} {R:Ev->Ev->PSt->Prop} {Q:V->V->Hp->Prop} (rs:RS C p σ F H) (ht:ta p fun e1 p1=>tb p1 fun e2 p2=>R e1 e2 p2)
  (k:∀e1 e2 p1 v1 v2 F1 H1,RS C p1 σ F1 H1->Same F F1->Shp p p1->EvR C.K p1 σ F1 e1 v1->EvR C.K p1 σ F1 e2 v2->R e1 e2 p1->Q v1 v2 H1):Up C ta σ H fun x H1=>Up C tb σ H1 fun y H2=>Q x y H2:=
 up1 rs ht fun e1 p1 v1 F1 H1 rs1 s1 sh1 er1 q1=>up1 rs1 q1 fun e2 p2 v2 F2 H2 rs2 s2 sh2 er2 q2=>
  k e1 e2 p2 v1 v2 F2 H2 rs2 (s1.trans s2) (sh1.trans sh2) (er1.mono s2 sh2) er2 q2
theorem ev_int {e:Ev} {v:V} {i:Int} (er:EvR C.K p σ F e v) (h:lk p e=.int i):v=.int i:=by
 cases e with
 | fz x=>dsimp only [lk] at h;subst h;cases er;rfl
 | ow j=>
  obtain ⟨⟨s,h1,m⟩,_⟩:=er
  dsimp only [lk] at h
  rw [h1] at h
  cases s with
  | d x=>cases m
  | own xs=>cases h
  | bor xs=>cases h
theorem ev_bl {e:Ev} {v:V} {b:Bool} (er:EvR C.K p σ F e v) (h:lk p e=.bl b):v=.bl b:=by
 cases e with
 | fz x=>dsimp only [lk] at h;subst h;cases er;rfl
 | ow j=>
  obtain ⟨⟨s,h1,m⟩,_⟩:=er
  dsimp only [lk] at h
  rw [h1] at h
  cases s with
  | d x=>cases m
  | own xs=>cases h
  | bor xs=>cases h
theorem ev_non {e:Ev} {v:V} (er:EvR C.K p σ F e v) (h:lk p e=.non):v=.non:=by
 cases e with
 | fz x=>dsimp only [lk] at h;subst h;cases er;rfl
 | ow j=>
  obtain ⟨⟨s,h1,m⟩,_⟩:=er
  dsimp only [lk] at h
  rw [h1] at h
  cases s with
  | d x=>cases m
  | own xs=>cases h
  | bor xs=>cases h
theorem ev_str {e:Ev} {v:V} {b:Str} (er:EvR C.K p σ F e v) (h:lk p e=.str b):v=.str b:=by
 cases e with
 | fz x=>dsimp only [lk] at h;subst h;cases er;rfl
 | ow j=>
  obtain ⟨⟨s,h1,m⟩,_⟩:=er
  dsimp only [lk] at h
  rw [h1] at h
  cases s with
  | d x=>cases m
  | own xs=>cases h
  | bor xs=>cases h
theorem ev_atom {e:Ev} {v w:V} (er:EvR C.K p σ F e v) (h:lk p e=.atom w):v=w:=by
 cases e with
 | fz x=>dsimp only [lk] at h;subst h;cases er;rfl
 | ow j=>
  obtain ⟨⟨s,h1,m⟩,_⟩:=er
  dsimp only [lk] at h
  rw [h1] at h
  cases s with
  | d x=>cases m
  | own xs=>cases h
  | bor xs=>cases h
theorem ev_lst {e:Ev} {v:V} {ds:List D} (rs:RS C p σ F H) (er:EvR C.K p σ F e v) (h:lk p e=.lst ds):∃a vs,v=.ref a/\H a=some (.lst vs)/\RepL C.K F ds vs:=by
 cases e with
 | fz x=>
  dsimp only [lk] at h;subst h
  cases er with
  | lst q r=>exact ⟨_,_,rfl,rs.sub _ _ q,r⟩
 | ow j=>
  obtain ⟨⟨s,h1,m⟩,h2⟩:=er
  dsimp only [lk] at h
  rw [h1] at h
  obtain ⟨w,e1,sr⟩:=rs.sl j s h1
  rw [h2] at e1;cases e1
  cases s with
  | d x=>cases m
  | own xs=>
   obtain ⟨a,vs,rfl,_,_,hH,r⟩:=sr
   cases h
   exact ⟨a,vs,rfl,hH,r⟩
  | bor xs=>
   obtain ⟨a,vs,rfl,_,_,hH,r⟩:=sr
   cases h
   exact ⟨a,vs,rfl,hH,r⟩
theorem ev_tup {e:Ev} {v:V} {ds:List D} (rs:RS C p σ F H) (er:EvR C.K p σ F e v) (h:lk p e=.tup ds):∃a vs,v=.ref a/\H a=some (.tup vs)/\RepL C.K F ds vs:=by
 cases e with
 | fz x=>
  dsimp only [lk] at h;subst h
  cases er with
  | tup q r=>exact ⟨_,_,rfl,rs.sub _ _ q,r⟩
 | ow j=>
  obtain ⟨⟨s,h1,m⟩,h2⟩:=er
  dsimp only [lk] at h
  rw [h1] at h
  cases s with
  | d x=>cases m
  | own xs=>cases h
  | bor xs=>cases h
theorem ev_scr {e:Ev} {v:V} {ns:List Int} (rs:RS C p σ F H) (er:EvR C.K p σ F e v) (h:lk p e=.scr ns):∃a,v=.ref a/\SqL C.K H a (ns.map V.int):=by
 cases e with
 | fz x=>
  dsimp only [lk] at h;subst h
  cases er with
  | scr q=>exact ⟨_,rfl,rs.sub.seq q⟩
 | ow j=>
  obtain ⟨⟨s,h1,m⟩,h2⟩:=er
  dsimp only [lk] at h
  rw [h1] at h
  cases s with
  | d x=>cases m
  | own xs=>cases h
  | bor xs=>cases h
theorem ev_exb {e:Ev} {v:V} (rs:RS C p σ F H) (er:EvR C.K p σ F e v) (h:lk p e=.exb):∃a,v=.ref a/\H a=some (XB a):=by
 cases e with
 | fz x=>
  have h:x=.exb:=h
  subst h
  cases (show Rep C.K F .exb v from er) with
  | exb q=>exact ⟨_,rfl,rs.sub _ _ q⟩
 | ow i=>
  exfalso
  unfold lk at h
  cases hp:p[i]? with
  | none=>simp [hp] at h
  | some o=>
   cases o with
   | none=>simp [hp] at h
   | some s=>
    simp [hp] at h
    have m:=er.1
    cases s with
    | d x=>
     obtain ⟨w,h1,h2⟩:=m
     rw [hp] at h1;cases h1
     cases h2
    | own xs=>cases h
    | bor xs=>cases h
theorem ev_dic {e:Ev} {v:V} {ks:List Key} {ds:List D} (rs:RS C p σ F H) (er:EvR C.K p σ F e v) (h:lk p e=.dic ks ds):∃a vs,v=.ref a/\H a=some (.dK (ks.zip vs))/\ks.length=vs.length/\RepL C.K F ds vs:=by
 cases e with
 | fz x=>
  dsimp only [lk] at h;subst h
  cases er with
  | dic q l r=>exact ⟨_,_,rfl,rs.sub _ _ q,l,r⟩
 | ow j=>
  obtain ⟨⟨s,h1,m⟩,h2⟩:=er
  dsimp only [lk] at h
  rw [h1] at h
  cases s with
  | d x=>cases m
  | own xs=>cases h
  | bor xs=>cases h
theorem RS.laid {a:Addr} {o:HO} (rs:RS C p σ F H) (ha:H a=none):RS C p σ F (upd H a o):=by
 have sm:=same_upd ha o
 refine ⟨rs.sub.trans sm,rs.ext,rs.new,fun b u e n=>sm b u (rs.keep b u e n),fun b n e=>?_,rs.len,fun i s e=>?_,rs.apart,rs.pin⟩
 ·have:=rs.grow b n
  cases q:H b with
  | none=>exact this q
  | some u=>rw [sm b u q] at e;cases e
 ·obtain ⟨v,e1,r⟩:=rs.sl i s e
  refine ⟨v,e1,?_⟩
  cases s with
  | d x=>exact r
  | own xs=>obtain ⟨b,vs,z1,z2,z3,z4,z5⟩:=r;exact ⟨b,vs,z1,z2,z3,sm _ _ z4,z5⟩
  | bor xs=>obtain ⟨b,vs,z1,z2,z3,z4,z5⟩:=r;exact ⟨b,vs,z1,z2,z3,sm _ _ z4,z5⟩
theorem RS.free {a:Addr} (rs:RS C p σ F H) (ha:H a=none):F a=none/\C.H0 a=none/\Mine p σ a:=by
 refine ⟨rs.sub.free ha,?_,fun i s e m z=>?_⟩
 ·cases q:C.H0 a with
  | none=>rfl
  | some o=>exact absurd ha (rs.grow a (by rw [q];intro w;cases w))
 ·obtain ⟨v,e1,r⟩:=rs.sl i s e
  rw [z] at e1;cases e1
  cases s with
  | d x=>cases m
  | own xs=>obtain ⟨b,vs,z1,z2,z3,z4,z5⟩:=r;cases z1;rw [ha] at z4;cases z4
  | bor xs=>obtain ⟨b,vs,z1,z2,z3,z4,z5⟩:=r;cases z1;rw [ha] at z4;cases z4
theorem RS.freeze {a:Addr} {o:HO} (rs:RS C p σ F H) (hF:F a=none) (h0:C.H0 a=none) (hH:H a=some o) (mi:Mine p σ a):RS C p σ (upd F a o) H:=by
 have sm:=same_upd hF o
 refine ⟨fun b u e=>?_,rs.ext.trans sm,fun b u e=>?_,rs.keep,rs.grow,rs.len,fun i s e=>?_,rs.apart,rs.pin⟩
 ·by_cases hb:b=a
  ·subst hb;rw [upd_same] at e;cases e;exact hH
  ·rw [upd_ne hb] at e;exact rs.sub b u e
 ·by_cases hb:b=a
  ·subst hb;exact .inr (.inl h0)
  ·rw [upd_ne hb] at e;exact rs.new b u e
 ·obtain ⟨v,e1,r⟩:=rs.sl i s e
  refine ⟨v,e1,?_⟩
  cases s with
  | d x=>exact Rep.mono sm r
  | own xs=>
   obtain ⟨b,vs,rfl,z2,z3,z4,z5⟩:=r
   have hb:b≠a:=fun z=>mi i _ e rfl (z▸e1)
   exact ⟨b,vs,rfl,by rw [upd_ne hb];exact z2,z3,z4,z5.mono sm⟩
  | bor xs=>
   obtain ⟨b,vs,rfl,z2,z3,z4,z5⟩:=r
   have hb:b≠a:=fun z=>mi i _ e rfl (z▸e1)
   exact ⟨b,vs,rfl,by rw [upd_ne hb];exact z2,z3,z4,z5.mono sm⟩
theorem RS.put {a:Addr} {o:HO} (rs:RS C p σ F H) (ha:H a=none):RS C p σ (upd F a o) (upd H a o):=by
 obtain ⟨h1,h2,h3⟩:=rs.free ha
 exact (rs.laid (o:=o) ha).freeze h1 h2 upd_same h3
theorem RS.write {i:Nat} {s:Sl} {a:Addr} {us:List V} {ys:List D} (rs:RS C p σ F H) (hp:p[i]? = some (some s)) (m:s.mu=true) (hσ:σ[i]? = some (some (.ref a))) (hr:RepL C.K F ys us) :
  RS C (p.set i (some (s.put ys))) σ F (upd H a (.lst us))/\Shp p (p.set i (some (s.put ys))):=by
 have hi:i<p.length:=(List.getElem?_eq_some_iff.mp hp).1
 obtain ⟨v,e1,r⟩:=rs.sl i s hp
 rw [hσ] at e1;cases e1
 have fa:F a=none/\(C.H0 a=none\/∃q∈C.bs,q.2=a)/\∃vs,H a=some (.lst vs):=by
  cases s with
  | d x=>cases m
  | own xs=>obtain ⟨b,vs,e,z2,z3,z4,z5⟩:=r;cases e;exact ⟨z2,.inl z3,vs,z4⟩
  | bor xs=>obtain ⟨b,vs,e,z2,z3,z4,z5⟩:=r;cases e;exact ⟨z2,.inr z3,vs,z4⟩
 obtain ⟨fa,ha,vs0,hH⟩:=fa
 have hm:(s.put ys).mu=true:=by cases s<;>first|rfl|cases m
 refine ⟨⟨fun b u e=>?_,rs.ext,rs.new,fun b u e n=>?_,fun b n e=>?_,by rw [List.length_set];exact rs.len,fun j s' e=>?_,fun j k s1 s2 b hjk e1 m1 e2 m2 x1 x2=>?_,fun q hq=>?_⟩,⟨List.length_set,fun j s' e m'=>?_⟩⟩
 ·rw [upd_ne (fun z=>by rw [z,fa] at e;cases e)];exact rs.sub b u e
 ·have hb:b≠a:=fun z=>by
   subst z
   rcases ha with z|⟨q,hq,z⟩
   ·rw [z] at e;cases e
   ·exact n q hq z
  rw [upd_ne hb];exact rs.keep b u e n
 ·by_cases hb:b=a
  ·subst hb;rw [upd_same] at e;cases e
  ·rw [upd_ne hb] at e;exact rs.grow b n e
 ·by_cases hj:j=i
  ·subst hj
   rw [List.getElem?_set_self hi] at e
   cases e
   refine ⟨.ref a,hσ,?_⟩
   cases s with
   | d x=>cases m
   | own xs=>obtain ⟨b,vs,e,z2,z3,z4,z5⟩:=r;cases e;exact ⟨a,us,rfl,fa,z3,upd_same,hr⟩
   | bor xs=>obtain ⟨b,vs,e,z2,z3,z4,z5⟩:=r;cases e;exact ⟨a,us,rfl,fa,z3,upd_same,hr⟩
  ·rw [List.getElem?_set_ne (Ne.symm hj)] at e
   obtain ⟨v,e1,r'⟩:=rs.sl j s' e
   refine ⟨v,e1,?_⟩
   cases s' with
   | d x=>exact r'
   | own xs=>
    obtain ⟨b,vs,rfl,z2,z3,z4,z5⟩:=r'
    have hb:b≠a:=fun z=>rs.apart j i _ _ a hj e rfl hp m (z▸e1) hσ
    exact ⟨b,vs,rfl,z2,z3,by rw [upd_ne hb];exact z4,z5⟩
   | bor xs=>
    obtain ⟨b,vs,rfl,z2,z3,z4,z5⟩:=r'
    have hb:b≠a:=fun z=>rs.apart j i _ _ a hj e rfl hp m (z▸e1) hσ
    exact ⟨b,vs,rfl,z2,z3,by rw [upd_ne hb];exact z4,z5⟩
 ·have back:∀(j:Nat) (s':Sl),(p.set i (some (s.put ys)))[j]? = some (some s')->∃s'',p[j]? = some (some s'')/\(s'.mu=true->s''.mu=true):=fun j s' e=>by
   by_cases hj:j=i
   ·subst hj;exact ⟨s,hp,fun _=>m⟩
   ·rw [List.getElem?_set_ne (Ne.symm hj)] at e;exact ⟨s',e,id⟩
  obtain ⟨t1,f1,g1⟩:=back j s1 e1
  obtain ⟨t2,f2,g2⟩:=back k s2 e2
  exact rs.apart j k t1 t2 b hjk f1 (g1 m1) f2 (g2 m2) x1 x2
 ·obtain ⟨z1,xs,z2⟩:=rs.pin q hq
  refine ⟨z1,?_⟩
  by_cases hj:q.1=i
  ·rw [hj] at z2 ⊢
   rw [hp] at z2;cases z2
   exact ⟨ys,by rw [List.getElem?_set_self hi];rfl⟩
  ·exact ⟨xs,by rw [List.getElem?_set_ne (Ne.symm hj)];exact z2⟩
 ·by_cases hj:j=i
  ·subst hj;exact ⟨_,List.getElem?_set_self hi,hm⟩
  ·exact ⟨s',by rw [List.getElem?_set_ne (Ne.symm hj)];exact e,m'⟩
end
section
variable {X:Cx} {C:Pc} {a b c e:Expr} {ta tb tc:TQ} {pos:Pos} {K:PySem.W.Frag}
def qVar (i:Nat):TQ:=fun p Q=>∃s,p[i]? = some (some s)/\Q (s.ev i) p
theorem q_var {i:Nat} (h:PE X e (tVar i)):PE X e (Up C (qVar i)):=QE.mk h fun p σ F H R rs ⟨s,e1,q⟩=>by
 obtain ⟨v,e2,r⟩:=rs.sl i s e1
 refine ⟨v,e2,s.ev i,p,F,rs,.refl _,.refl _,?_,q⟩
 cases s with
 | d x=>exact r
 | own xs=>exact ⟨⟨_,e1,rfl⟩,e2⟩
 | bor xs=>exact ⟨⟨_,e1,rfl⟩,e2⟩
def qC (x:D):TQ:=fun p Q=>Q (.fz x) p
theorem q_c {v:V} {x:D} (h:PE X e (tC v)) (r:∀F,Rep C.K F x v):PE X e (Up C (qC x)):=QE.mk h fun p σ F H R rs q=>⟨.fz x,p,F,rs,.refl _,.refl _,r F,q⟩
def q2 (Cn:Int->Int->Prop) (g:Int->Int->D) (ta tb:TQ):TQ:=fun p Q=>ta p fun e1 p1=>tb p1 fun e2 p2=>∃i j,lk p2 e1=.int i/\lk p2 e2=.int j/\Cn i j/\Q (.fz (g i j)) p2
def q20 (g:Int->Int->D) (ta tb:TQ):TQ:=fun p Q=>ta p fun e1 p1=>tb p1 fun e2 p2=>∃i j,lk p2 e1=.int i/\lk p2 e2=.int j/\Q (.fz (g i j)) p2
theorem fin_ev {p p1:PSt} {σ:St} {F F1 H1:Hp} {R:Ev->PSt->Prop} {x:D} {v:V} (rs:RS C p1 σ F1 H1) (s1:Same F F1) (sh:Shp p p1) (r:Rep C.K F1 x v) (q:R (.fz x) p1):XQ C p σ F R v H1:=⟨.fz x,p1,F1,rs,s1,sh,r,q⟩
theorem q_op {op:Operator} {Cn:Int->Int->Prop} {gv:Int->Int->V} {g:Int->Int->D} (ho:OpR X (binaryOp op) (rI Cn gv)) (hg:∀i j F,Rep C.K F (g i j) (gv i j)) (ha:PE X a (Up C ta)) (hb:PE X b (Up C tb)) :
  PE X (.BinOp a op b pos) (Up C (q2 Cn g ta tb)):=
 QE.mk (pe_op ho ha hb) fun p σ F H R rs ht=>up2 rs ht fun e1 e2 p1 v1 v2 F1 H1 rs1 s1 sh er1 er2 ⟨i,j,h1,h2,c,q⟩=>⟨i,j,ev_int er1 h1,ev_int er2 h2,c,fin_ev rs1 s1 sh (hg i j F1) q⟩
theorem q_op0 {op:Operator} {gv:Int->Int->V} {g:Int->Int->D} (ho:OpR X (binaryOp op) (rI0 gv)) (hg:∀i j F,Rep C.K F (g i j) (gv i j)) (ha:PE X a (Up C ta)) (hb:PE X b (Up C tb)) :
  PE X (.BinOp a op b pos) (Up C (q20 g ta tb)):=
 QE.mk (pe_op ho ha hb) fun p σ F H R rs ht=>up2 rs ht fun e1 e2 p1 v1 v2 F1 H1 rs1 s1 sh er1 er2 ⟨i,j,h1,h2,q⟩=>⟨i,j,ev_int er1 h1,ev_int er2 h2,fin_ev rs1 s1 sh (hg i j F1) q⟩
theorem q_add (ha:PE X a (Up C ta)) (hb:PE X b (Up C tb)):PE X (.BinOp a .Add b pos) (Up C (q20 (fun i j=>.int (i+j)) ta tb)):=q_op0 op_add (fun _ _ _=>.int _) ha hb
theorem q_sub (ha:PE X a (Up C ta)) (hb:PE X b (Up C tb)):PE X (.BinOp a .Sub b pos) (Up C (q20 (fun i j=>.int (i - j)) ta tb)):=q_op0 op_sub (fun _ _ _=>.int _) ha hb
theorem q_mul (ha:PE X a (Up C ta)) (hb:PE X b (Up C tb)):PE X (.BinOp a .Mult b pos) (Up C (q2 CMul (fun i j=>.int (i * j)) ta tb)):=q_op op_mul (fun _ _ _=>.int _) ha hb
def Fits (j:Int):Prop:=j.natAbs.log2<9000
theorem Fits.of {j:Int} {n:Nat} (h0:0<j) (h:j<2 ^ n) (hn:n<=9000):Fits j:=by
 unfold Fits
 have h1:j.natAbs<2 ^ n:=by
  have:((j.natAbs:Nat):Int)=j:=by omega
  have h2:((j.natAbs:Nat):Int)<((2 ^ n:Nat):Int):=by rw [this];push_cast;exact h
  exact_mod_cast h2
 have h2:j.natAbs≠0:=by omega
 exact Nat.lt_of_lt_of_le ((Nat.log2_lt h2).mpr h1) hn
def CDivQ (i j:Int):Prop:=0<j/\(j<2 ^ 64\/Fits j)
theorem op_fdivQ:OpR X (binaryOp .FloorDiv) (rI CDivQ fun i j=>.int (i / j)):=fun pins s σ H x y v u Q I rx ry ⟨i,j,h1,h2,⟨c1,c2⟩,q⟩=>op_fdivB pins s σ H x y v u Q I rx ry ⟨i,j,h1,h2,⟨c1,by
 rcases c2 with c2|c2
 ·exact Fits.of (n:=64) c1 c2 (by decide)
 ·exact c2⟩,q⟩
theorem q_fdiv (ha:PE X a (Up C ta)) (hb:PE X b (Up C tb)):PE X (.BinOp a .FloorDiv b pos) (Up C (q2 CDivQ (fun i j=>.int (i / j)) ta tb)):=q_op op_fdivQ (fun _ _ _=>.int _) ha hb
def CMod (i j:Int):Prop:=0<j
theorem q_mod (ha:PE X a (Up C ta)) (hb:PE X b (Up C tb)):PE X (.BinOp a .Mod b pos) (Up C (q2 CMod (fun i j=>.int (i % j)) ta tb)):=q_op (Cn:=CMod) op_mod (fun _ _ _=>.int _) ha hb
theorem q_pow (ha:PE X a (Up C ta)) (hb:PE X b (Up C tb)):PE X (.BinOp a .Pow b pos) (Up C (q2 CPow (fun i j=>.int (i ^ j.toNat)) ta tb)):=q_op op_pow (fun _ _ _=>.int _) ha hb
theorem q_and (ha:PE X a (Up C ta)) (hb:PE X b (Up C tb)):PE X (.BinOp a .BitAnd b pos) (Up C (q20 (fun i j=>.int (Builtin.bitAnd i j)) ta tb)):=q_op0 op_and (fun _ _ _=>.int _) ha hb
def q1 (g:Int->D) (ta:TQ):TQ:=fun p Q=>ta p fun e1 p1=>∃i,lk p1 e1=.int i/\Q (.fz (g i)) p1
def qTest (t:TQ):TTQ:=fun p Q=>t p fun e p1=>∃b,lk p1 e=.bl b/\Q b p1
theorem t_cmp {op:CmpOp} {gv:Int->Int->Bool} (ho:OpR X (compareOp op) (rI0 fun i j=>.bl (gv i j))) (hm:behindInMarks op b=false) (ha:PE X a (Up C ta)) (hb:PE X b (Up C tb)) :
  PT X (.Compare a [op] [b] pos) (UpT C (qTest (q20 (fun i j=>.bl (gv i j)) ta tb))):=
 QT.mk (pt_cmpR ho ha hb hm) fun p σ F H R rs ht=>up2 rs ht fun e1 e2 p1 v1 v2 F1 H1 rs1 s1 sh er1 er2 ⟨i,j,h1,h2,b,hb,q⟩=>⟨i,j,ev_int er1 h1,ev_int er2 h2,b,by cases hb;rfl,p1,F1,rs1,s1,sh,q⟩
theorem t_lt (ha:PE X a (Up C ta)) (hb:PE X b (Up C tb)):PT X (.Compare a [.Lt] [b] pos) (UpT C (qTest (q20 (fun i j=>.bl (decide (i<j))) ta tb))):=t_cmp op_lt (nomark _) ha hb
theorem t_le (ha:PE X a (Up C ta)) (hb:PE X b (Up C tb)):PT X (.Compare a [.LtE] [b] pos) (UpT C (qTest (q20 (fun i j=>.bl (decide (i<=j))) ta tb))):=t_cmp op_le (nomark _) ha hb
theorem t_gt (ha:PE X a (Up C ta)) (hb:PE X b (Up C tb)):PT X (.Compare a [.Gt] [b] pos) (UpT C (qTest (q20 (fun i j=>.bl (decide (j<i))) ta tb))):=t_cmp op_gt (nomark _) ha hb
theorem t_ge (ha:PE X a (Up C ta)) (hb:PE X b (Up C tb)):PT X (.Compare a [.GtE] [b] pos) (UpT C (qTest (q20 (fun i j=>.bl (decide (j<=i))) ta tb))):=t_cmp op_ge (nomark _) ha hb
def nrm:D->D
 | .scr ns=>.lst (ns.map D.int)
 | x=>x
noncomputable def deq (x y:D):Bool:=@decide (nrm x=nrm y) (Classical.propDecidable _)
def AllI (xs:List D):Prop:=∃ns:List Int,xs=ns.map D.int
inductive EqDom:D->D->Prop
 | int (i j:Int):EqDom (.int i) (.int j)
 | bl (i j:Bool):EqDom (.bl i) (.bl j)
 | str (i j:Str):EqDom (.str i) (.str j)
 | li {xs ys:List D}:AllI xs->AllI ys->EqDom (.lst xs) (.lst ys)
 | sc {ns:List Int} {ys:List D}:AllI ys->EqDom (.scr ns) (.lst ys)
theorem map_int_inj {ns ms:List Int}:ns.map D.int=ms.map D.int ↔ ns=ms:=by
 constructor
 ·intro h
  induction ns generalizing ms with
  | nil=>cases ms with
   | nil=>rfl
   | cons m r=>cases h
  | cons n r ih=>cases ms with
   | nil=>cases h
   | cons m r'=>
    rw [List.map_cons,List.map_cons] at h
    injection h with h1 h2
    injection h1 with h1
    rw [h1,ih h2]
 ·intro h;rw [h]
theorem deq_int (i j:Int):deq (.int i) (.int j)=decide (i=j):=by
 unfold deq nrm
 by_cases h:i=j
 ·subst h;simp
 ·have:D.int i≠D.int j:=fun z=>h (by injection z)
  simp [h,this]
theorem deq_bl (i j:Bool):deq (.bl i) (.bl j)=decide (i=j):=by
 unfold deq nrm
 by_cases h:i=j
 ·subst h;simp
 ·have:D.bl i≠D.bl j:=fun z=>h (by injection z)
  simp [h,this]
theorem deq_str (i j:Str):deq (.str i) (.str j)=decide (i=j):=by
 unfold deq nrm
 by_cases h:i=j
 ·subst h;simp
 ·have:D.str i≠D.str j:=fun z=>h (by injection z)
  simp [h,this]
theorem deq_ints (ns ms:List Int):deq (.lst (ns.map D.int)) (.lst (ms.map D.int))=decide (ns=ms):=by
 unfold deq nrm
 by_cases h:ns=ms
 ·subst h;simp
 ·have:D.lst (ns.map D.int)≠D.lst (ms.map D.int):=fun z=>h (map_int_inj.mp (by injection z))
  simp [h,this]
theorem deq_self (x:D):deq x x=true:=by unfold deq;simp
theorem deq_scr (ns ms:List Int):deq (.scr ns) (.lst (ms.map D.int))=decide (ns=ms):=deq_ints ns ms
theorem deq_scr0 (ns:List Int):deq (.scr ns) (.lst [])=decide (ns=[]):=deq_ints ns []
theorem eqd_scr0 (ns:List Int):EqDom (.scr ns) (.lst [])=True:=eq_true (.sc ⟨[],rfl⟩)
theorem AllI.nil:AllI []:=⟨[],rfl⟩
theorem eqd_l0 (ns:List Int):EqDom (.lst (ns.map D.int)) (.lst [])=True:=eq_true (.li ⟨ns,rfl⟩ ⟨[],rfl⟩)
theorem deq_l0 (ns:List Int):deq (.lst (ns.map D.int)) (.lst [])=decide (ns=[]):=deq_ints ns []
theorem eqd_l1 (ns:List Int) (x:Int):EqDom (.lst (ns.map D.int)) (.lst [.int x])=True:=eq_true (.li ⟨ns,rfl⟩ ⟨[x],rfl⟩)
theorem deq_l1 (ns:List Int) (x:Int):deq (.lst (ns.map D.int)) (.lst [.int x])=decide (ns=[x]):=deq_ints ns [x]
theorem eqd_int (i j:Int):EqDom (.int i) (.int j)=True:=eq_true (.int i j)
theorem eqd_bl (i j:Bool):EqDom (.bl i) (.bl j)=True:=eq_true (.bl i j)
theorem eqd_str (i j:Str):EqDom (.str i) (.str j)=True:=eq_true (.str i j)
theorem eqd_ints (ns ms:List Int):EqDom (.lst (ns.map D.int)) (.lst (ms.map D.int))=True:=eq_true (.li ⟨ns,rfl⟩ ⟨ms,rfl⟩)
theorem eq_use {x y:D} {e1 e2:Ev} {v1 v2:V} {p:PSt} {σ:St} {F H:Hp} (d:EqDom x y) (rs:RS C p σ F H) (er1:EvR C.K p σ F e1 v1) (er2:EvR C.K p σ F e2 v2) (h1:lk p e1=x) (h2:lk p e2=y) :
  (scal v1 v2=true/\decide (v1=v2)=deq x y)\/∃(a b:Addr) (ns ms:List Int),v1=.ref a/\v2=.ref b/\SqL C.K H a (ns.map V.int)/\SqL C.K H b (ms.map V.int)/\decide (ns=ms)=deq x y:=by
 cases d with
 | int i j=>rw [ev_int er1 h1,ev_int er2 h2,deq_int];exact .inl ⟨rfl,by simp⟩
 | bl i j=>rw [ev_bl er1 h1,ev_bl er2 h2,deq_bl];exact .inl ⟨rfl,by simp⟩
 | str i j=>rw [ev_str er1 h1,ev_str er2 h2,deq_str];exact .inl ⟨rfl,by simp⟩
 | li q1 q2=>
  obtain ⟨ns,rfl⟩:=q1
  obtain ⟨ms,rfl⟩:=q2
  obtain ⟨a1,vs1,rfl,g1,r1⟩:=ev_lst rs er1 h1
  obtain ⟨a2,vs2,rfl,g2,r2⟩:=ev_lst rs er2 h2
  rw [r1.ints] at g1
  rw [r2.ints] at g2
  exact .inr ⟨a1,a2,ns,ms,rfl,rfl,.of g1,.of g2,by rw [deq_ints]⟩
 | @sc ns ys q2=>
  obtain ⟨ms,rfl⟩:=q2
  obtain ⟨a2,vs2,rfl,g2,r2⟩:=ev_lst rs er2 h2
  rw [r2.ints] at g2
  obtain ⟨a1,rfl,g1⟩:=ev_scr rs er1 h1
  exact .inr ⟨a1,a2,ns,ms,rfl,rfl,g1,.of g2,by rw [deq_scr]⟩
def qEq (f:Bool->Bool) (ta tb:TQ):TQ:=fun p Q=>ta p fun e1 p1=>tb p1 fun e2 p2=>EqDom (lk p2 e1) (lk p2 e2)/\Q (.fz (.bl (f (deq (lk p2 e1) (lk p2 e2))))) p2
theorem op_eqU (h:X.K=K) (hu:X.A.units+64<cLine):OpR X (compareOp .Eq) (fun x y H Q=>rEq x y H Q\/rEqL K x y H Q):=op_eq.or (op_eqLK h hu)
theorem op_neU (h:X.K=K) (hu:X.A.units+64<cLine):OpR X (compareOp .NotEq) (fun x y H Q=>rNe x y H Q\/rNeL K x y H Q):=op_ne.or (op_neLK h hu)
theorem use_eq {x y:V} {H:Hp} {Q:VK} {k:Bool} (h:(scal x y=true/\decide (x=y)=k)\/∃(a b:Addr) (ns ms:List Int),x=.ref a/\y=.ref b/\SqL K H a (ns.map V.int)/\SqL K H b (ms.map V.int)/\decide (ns=ms)=k) (q:Q (.bl k) H) :
  rEq x y H Q\/rEqL K x y H Q:=by
 rcases h with ⟨h1,h2⟩|⟨a,b,ns,ms,h1,h2,h3,h4,h5⟩
 ·exact .inl ⟨h1,by rw [h2];exact q⟩
 ·exact .inr ⟨a,b,ns,ms,h1,h2,h3,h4,by rw [h5];exact q⟩
theorem use_ne {x y:V} {H:Hp} {Q:VK} {k:Bool} (h:(scal x y=true/\decide (x=y)=k)\/∃(a b:Addr) (ns ms:List Int),x=.ref a/\y=.ref b/\SqL K H a (ns.map V.int)/\SqL K H b (ms.map V.int)/\decide (ns=ms)=k) (q:Q (.bl (!k)) H) :
  rNe x y H Q\/rNeL K x y H Q:=by
 rcases h with ⟨h1,h2⟩|⟨a,b,ns,ms,h1,h2,h3,h4,h5⟩
 ·exact .inl ⟨h1,by rw [h2];exact q⟩
 ·exact .inr ⟨a,b,ns,ms,h1,h2,h3,h4,by rw [h5];exact q⟩
theorem q_eq (hK:X.K=C.K) (hu:X.A.units+64<cLine) (ha:PE X a (Up C ta)) (hb:PE X b (Up C tb)):PE X (.Compare a [.Eq] [b] pos) (Up C (qEq (fun k=>k) ta tb)):=
 QE.mk (pe_cmpR (op_eqU hK hu) ha hb (nomark _)) fun p σ F H R rs ht=>up2 rs ht fun e1 e2 p1 v1 v2 F1 H1 rs1 s1 sh er1 er2 ⟨d,q⟩=>use_eq (eq_use d rs1 er1 er2 rfl rfl) (fin_ev rs1 s1 sh (.bl _) q)
theorem t_eq (hK:X.K=C.K) (hu:X.A.units+64<cLine) (ha:PE X a (Up C ta)) (hb:PE X b (Up C tb)):PT X (.Compare a [.Eq] [b] pos) (UpT C (qTest (qEq (fun k=>k) ta tb))):=
 QT.mk (pt_cmpR (op_eqU hK hu) ha hb (nomark _)) fun p σ F H R rs ht=>up2 rs ht fun e1 e2 p1 v1 v2 F1 H1 rs1 s1 sh er1 er2 ⟨d,k,hk,q⟩=>use_eq (eq_use d rs1 er1 er2 rfl rfl) ⟨k,by cases hk;rfl,p1,F1,rs1,s1,sh,q⟩
theorem t_ne (hK:X.K=C.K) (hu:X.A.units+64<cLine) (ha:PE X a (Up C ta)) (hb:PE X b (Up C tb)):PT X (.Compare a [.NotEq] [b] pos) (UpT C (qTest (qEq (fun k=>!k) ta tb))):=
 QT.mk (pt_cmpR (op_neU hK hu) ha hb (nomark _)) fun p σ F H R rs ht=>up2 rs ht fun e1 e2 p1 v1 v2 F1 H1 rs1 s1 sh er1 er2 ⟨d,k,hk,q⟩=>use_ne (eq_use d rs1 er1 er2 rfl rfl) ⟨k,by cases hk;rfl,p1,F1,rs1,s1,sh,q⟩
def qChain (f g:Int->Int->Bool) (ta tb tc:TQ):TQ:=fun p Q=>ta p fun e1 p1=>tb p1 fun e2 p2=>∃i j,lk p2 e1=.int i/\lk p2 e2=.int j /\
 if f i j=true then tc p2 fun e3 p3=>∃k,lk p3 e3=.int k/\Q (.fz (.bl (g j k))) p3 else Q (.fz (.bl false)) p2
theorem ite_imp {c:Prop} [Decidable c] {A B A' B':Prop} (h1:A->A') (h2:B->B') (h:if c then A else B):if c then A' else B':=by
 by_cases hc:c
 ·rw [if_pos hc] at h ⊢;exact h1 h
 ·rw [if_neg hc] at h ⊢;exact h2 h
theorem t_chain {op op':CmpOp} {f g:Int->Int->Bool} (ho:OpR X (compareOp op) (rI0 fun i j=>.bl (f i j))) (ho':OpR X (compareOp op') (rI0 fun i j=>.bl (g i j))) (ha:PE X a (Up C ta)) (hb:PE X b (Up C tb)) (hc:PE X c (Up C tc))
  (hm:lastMarks [op,op'] [b,c]=false:=by with_unfolding_all rfl):PT X (.Compare a [op,op'] [b,c] pos) (UpT C (qTest (qChain f g ta tb tc))):=
 QT.mk (pt_chain ho ho' ha hb hc hm) fun p σ F H R rs ht=>up2 rs ht fun e1 e2 p1 v1 v2 F1 H1 rs1 s1 sh er1 er2 ⟨i,j,h1,h2,q⟩=>by
  refine ⟨i,j,ev_int er1 h1,ev_int er2 h2,f i j,rfl,?_⟩
  refine ite_imp (fun q=>?_) (fun q=>?_) q
  ·refine up1 rs1 q fun e3 p3 v3 F3 H3 rs3 s3 sh3 er3 ⟨k,h3,l,hl,q3⟩=>?_
   refine ⟨j,k,ev_int er2 h2,ev_int er3 h3,l,by cases hl;rfl,p3,F3,rs3,s1.trans s3,sh.trans sh3,q3⟩
  ·obtain ⟨l,hl,q⟩:=q
   exact ⟨l,by cases hl;rfl,p1,F1,rs1,s1,sh,q⟩
variable {tA tB':TTQ} {rest:List Expr}
theorem t_val {t : TQ} (h : PE X e (Up C t)) (he : ∀ whole, isTrue e X.env whole = (do let v ← whole; standAt e.pos; holding [v] (truthy v)) := by intro _; rfl) : PT X e (UpT C (qTest t)) :=
  QT.mk (pt_val h he) fun p σ F H R rs ht => up1 rs ht fun e1 p1 v1 F1 H1 rs1 s1 sh er1 ⟨k, hk, q⟩ => ⟨k, ev_bl er1 hk, p1, F1, rs1, s1, sh, q⟩
def qAnd (t u:TTQ):TTQ:=fun p Q=>t p fun c p1=>if c=true then u p1 Q else Q false p1
def qOr (t u:TTQ):TTQ:=fun p Q=>t p fun c p1=>if c=true then Q true p1 else u p1 Q
def qNot (t:TTQ):TTQ:=fun p Q=>t p fun c p1=>Q (!c) p1
theorem w_and1 (ha:PT X a (UpT C tA)):PW X (.BoolOp .And [a] pos) (UpT C tA):=pw_and1 ha
theorem w_or1 (ha:PT X a (UpT C tA)):PW X (.BoolOp .Or [a] pos) (UpT C tA):=pw_or1 ha
theorem w_and (ha:PT X a (UpT C tA)) (hb:PW X (.BoolOp .And (b::rest) pos) (UpT C tB')):PW X (.BoolOp .And (a::b::rest) pos) (UpT C (qAnd tA tB')):=
 QW.mk (pw_and ha hb) fun p σ F H R rs ht=>upT1 rs ht fun k p1 F1 H1 rs1 s1 sh q=>ite_imp (fun q=>upT1 rs1 q fun k2 p2 F2 H2 rs2 s2 sh2 q2=>⟨p2,F2,rs2,s1.trans s2,sh.trans sh2,q2⟩) (fun q=>⟨p1,F1,rs1,s1,sh,q⟩) q
theorem w_or (ha:PT X a (UpT C tA)) (hb:PW X (.BoolOp .Or (b::rest) pos) (UpT C tB')):PW X (.BoolOp .Or (a::b::rest) pos) (UpT C (qOr tA tB')):=
 QW.mk (pw_or ha hb) fun p σ F H R rs ht=>upT1 rs ht fun k p1 F1 H1 rs1 s1 sh q=>ite_imp (fun q=>⟨p1,F1,rs1,s1,sh,q⟩) (fun q=>upT1 rs1 q fun k2 p2 F2 H2 rs2 s2 sh2 q2=>⟨p2,F2,rs2,s1.trans s2,sh.trans sh2,q2⟩) q
theorem t_not (ha:PT X a (UpT C tA)):PT X (.UnaryOp .Not a pos) (UpT C (qNot tA)):=
 QT.mk (pt_not ha) fun p σ F H R rs ht=>upT1 rs ht fun k p1 F1 H1 rs1 s1 sh q=>⟨p1,F1,rs1,s1,sh,q⟩
def qAndV (ta tb:TQ):TQ:=fun p Q=>ta p fun e p1=>∃c,lk p1 e=.bl c/\if c=true then tb p1 Q else Q (.fz (.bl false)) p1
def qNotV (ta:TQ):TQ:=fun p Q=>ta p fun e p1=>∃c,lk p1 e=.bl c/\Q (.fz (.bl (!c))) p1
theorem q_one {op} (h:PE X a (Up C ta)):PE X (.BoolOp op [a] pos) (Up C ta):=pe_one h
theorem q_andV (ha:PE X a (Up C ta)) (hb:PE X (.BoolOp .And (b::rest) pos) (Up C tb)):PE X (.BoolOp .And (a::b::rest) pos) (Up C (qAndV ta tb)):=
 QE.mk (pe_and ha hb) fun p σ F H R rs ht=>up1 rs ht fun e1 p1 v1 F1 H1 rs1 s1 sh er1 ⟨k,hk,q⟩=>⟨k,ev_bl er1 hk,ite_imp (fun q=>up1 rs1 q fun e2 p2 v2 F2 H2 rs2 s2 sh2 er2 q2=>⟨e2,p2,F2,rs2,s1.trans s2,sh.trans sh2,er2,q2⟩) (fun q=>fin_ev rs1 s1 sh (.bl _) q) q⟩
theorem q_notV (ha:PE X a (Up C ta)):PE X (.UnaryOp .Not a pos) (Up C (qNotV ta)):=
 QE.mk (pe_not ha) fun p σ F H R rs ht=>up1 rs ht fun e1 p1 v1 F1 H1 rs1 s1 sh er1 ⟨k,hk,q⟩=>⟨k,ev_bl er1 hk,fin_ev rs1 s1 sh (.bl _) q⟩
def qIf (t:TTQ) (ta tb:TQ):TQ:=fun p Q=>t p fun c p1=>if c=true then ta p1 Q else tb p1 Q
theorem q_ifExp (hc:PT X c (UpT C tA)) (ha:PE X a (Up C ta)) (hb:PE X b (Up C tb)):PE X (.IfExp c a b pos) (Up C (qIf tA ta tb)):=
 QE.mk (pe_ifExp hc ha hb) fun p σ F H R rs ht=>upT1 rs ht fun k p1 F1 H1 rs1 s1 sh q=>
  ite_imp (fun q=>up1 rs1 q fun e2 p2 v2 F2 H2 rs2 s2 sh2 er2 q2=>⟨e2,p2,F2,rs2,s1.trans s2,sh.trans sh2,er2,q2⟩) (fun q=>up1 rs1 q fun e2 p2 v2 F2 H2 rs2 s2 sh2 er2 q2=>⟨e2,p2,F2,rs2,s1.trans s2,sh.trans sh2,er2,q2⟩) q
def qFz (t:TN):TQ:=fun p Q=>t p fun r p1=>Q (.fz r.val) p1
theorem RtR.fz {r:Rt} {v:V} {p:PSt} {σ:St} {F H:Hp} (rs:RS C p σ F H) (h:RtR C p σ F H r v):∃F1,RS C p σ F1 H/\Same F F1/\Rep C.K F1 r.val v:=by
 cases r with
 | rd x=>exact ⟨F,rs,.refl _,h⟩
 | ro xs=>
  obtain ⟨a,vs,rfl,h1,h2,h3,h4,h5⟩:=h
  exact ⟨_,rs.freeze h1 h2 h3 h5,same_upd h1 _,.lst upd_same (h4.mono (same_upd h1 _))⟩
theorem q_fz {t:TN} (h:PE X e (UpN C t)):PE X e (Up C (qFz t)):=
 QE.mk h fun p σ F H R rs ht=>upN1 rs ht fun r p1 v1 F1 H1 rs1 s1 sh rr q=>by
  obtain ⟨F2,rs2,s2,r2⟩:=rr.fz rs1
  exact fin_ev rs2 (s1.trans s2) sh r2 q
def nVal (t:TQ):TN:=fun p Q=>t p fun e p1=>∃x,e=.fz x/\Q (.rd x) p1
theorem n_val {t:TQ} (h:PE X e (Up C t)):PE X e (UpN C (nVal t)):=
 QN.mk h fun p σ F H R rs ht=>up1 rs ht fun e1 p1 v1 F1 H1 rs1 s1 sh er1 ⟨x,hx,q⟩=>⟨.rd x,p1,F1,rs1,s1,sh,by subst hx;exact er1,q⟩
variable {es:List Expr} {tas:TAQ}
def qNil:TAQ:=fun p Q=>Q [] p
def qCons (ta:TQ) (tr:TAQ):TAQ:=fun p Q=>ta p fun x p1=>tr p1 fun xs p2=>Q (x::xs) p2
theorem a_nil:PA X [] (UpA C qNil):=QA.mk pa_nil fun p σ F H R rs q=>⟨[],p,F,rs,.refl _,.refl _,.nil,q⟩
theorem a_cons (ha:PE X e (Up C ta)) (hr:PA X es (UpA C tas)) (hs:starEach (e::es) X.env=(false,eval e X.env)::starEach es X.env:=by rfl):PA X (e::es) (UpA C (qCons ta tas)):=
 QA.mk (pa_cons ha hr hs) fun p σ F H R rs ht=>up1 rs ht fun e1 p1 v1 F1 H1 rs1 s1 sh er1 q=>upA1 rs1 q fun es2 p2 vs2 F2 H2 rs2 s2 sh2 er2 q2=>
  ⟨e1::es2,p2,F2,rs2,s1.trans s2,sh.trans sh2,.cons (er1.mono s2 sh2) er2,q2⟩
def fzs:List Ev->Option (List D)
 | []=>some []
 | .fz x::r=>match fzs r with
  | some xs=>some (x::xs)
  | none=>none
 | .ow _::_=>none
theorem fzs_ok {p:PSt} {σ:St} {F:Hp}:∀{es:List Ev} {vs:List V} {xs:List D},EvRs C.K p σ F es vs->fzs es=some xs->RepL C.K F xs vs
 | _,_,_,.nil,h=>by cases h;exact .nil
 | .fz x::r,_,xs,.cons h1 h2,h=>by
  unfold fzs at h
  cases e:fzs r with
  | none=>rw [e] at h;cases h
  | some ys=>rw [e] at h;cases h;exact .cons h1 (fzs_ok h2 e)
 | .ow i::r,_,xs,.cons h1 h2,h=>by cases h
def nLst (t:TAQ):TN:=fun p Q=>t p fun es p1=>∃xs,fzs es=some xs/\xs.length<=100000/\Q (.ro xs) p1
theorem line_of {n:Nat} (h:n<=100000):n<=sizeLine:=Nat.le_trans h (by decide)
theorem fin_new {p p1:PSt} {σ:St} {F F1 H1:Hp} {R:Rt->PSt->Prop} {xs:List D} {vs:List V} {a:Addr} (rs:RS C p1 σ F1 H1) (s1:Same F F1) (sh:Shp p p1) (ha:H1 a=none) (r:RepL C.K F1 xs vs) (q:R (.ro xs) p1):XN C p σ F R (.ref a) (upd H1 a (.lst vs)):=by
 obtain ⟨h1,h2,h3⟩:=rs.free ha
 exact ⟨.ro xs,p1,F1,rs.laid ha,s1,sh,⟨a,vs,rfl,h1,h2,upd_same,r,h3⟩,q⟩
theorem n_lst (h:PA X es (UpA C tas)):PE X (.List es pos) (UpN C (nLst tas)):=
 QN.mk (pe_lst h) fun p σ F H R rs ht=>upA1 rs ht fun es1 p1 vs1 F1 H1 rs1 s1 sh er1 ⟨xs,hx,hl,q⟩=>by
  have r:=fzs_ok er1 hx
  exact ⟨line_of (by rw [<-r.length];exact hl),fun a ha=>fin_new rs1 s1 sh ha r q⟩
def qTup (t:TAQ):TQ:=fun p Q=>t p fun es p1=>∃xs,fzs es=some xs/\xs.length<=100000/\Q (.fz (.tup xs)) p1
theorem q_tup {x1} (h:PA X es (UpA C tas)):PE X (.Tuple es x1 pos) (Up C (qTup tas)):=
 QE.mk (pe_tup h) fun p σ F H R rs ht=>upA1 rs ht fun es1 p1 vs1 F1 H1 rs1 s1 sh er1 ⟨xs,hx,hl,q⟩=>by
  have r:=fzs_ok er1 hx
  refine ⟨line_of (by rw [<-r.length];exact hl),fun a ha=>?_⟩
  obtain ⟨h1,h2,h3⟩:=rs1.free ha
  exact fin_ev (rs1.put ha) (s1.trans (same_upd h1 _)) sh (.tup upd_same (r.mono (same_upd h1 _))) q
end
def seqOf:D->Option (List D)
 | .lst ds=>some ds
 | .tup ds=>some ds
 | _=>none
def seqL:D->Option (List D)
 | .lst ds=>some ds
 | .scr ns=>some (ns.map D.int)
 | _=>none
def mutL (p:PSt) (i:Nat):Option (List D):=match p[i]? with
 | some (some (.own xs))=>some xs
 | some (some (.bor xs))=>some xs
 | _=>none
def putL (p:PSt) (i:Nat) (ys:List D):PSt:=match p[i]? with
 | some (some s)=>p.set i (some (s.put ys))
 | _=>p
def cut {α:Type} (xs:List α) (lo hi:Option Int):List α:=(xs.drop (HT.sIx xs.length 0 lo)).take (HT.sIx xs.length xs.length hi - HT.sIx xs.length 0 lo)
section
variable {X:Cx} {C:Pc} {a b c e:Expr} {ta tb tc:TQ} {pos:Pos} {K:PySem.W.Frag} {p:PSt} {σ:St} {F H:Hp}
theorem RepL.at {ds:List D} {vs:List V} {k:Int} {x:D} (r:RepL K F ds vs) (h:atI ds k=some x):∃v,atI vs k=some v/\Rep K F x v:=by
 unfold atI at h ⊢
 rw [r.length] at h
 cases e:ixN vs.length k with
 | none=>rw [e] at h;cases h
 | some j=>rw [e] at h;exact r.get h
theorem RepL.cut {ds:List D} {vs:List V} (r:RepL K F ds vs) (lo hi:Option Int):RepL K F (cut ds lo hi) (cutV vs lo hi):=by
 unfold L2.cut cutV
 rw [r.length]
 exact (r.drop _).take _
theorem ev_seq {e1:Ev} {v:V} {ds:List D} (rs:RS C p σ F H) (er:EvR C.K p σ F e1 v) (h:seqOf (lk p e1)=some ds):∃a vs,v=.ref a/\(SqL C.K H a vs\/SqT C.K H a vs)/\RepL C.K F ds vs:=by
 cases e:lk p e1 with
 | lst xs=>rw [e] at h;cases h;obtain ⟨a,vs,h1,h2,h3⟩:=ev_lst rs er e;exact ⟨a,vs,h1,.inl (.of h2),h3⟩
 | tup xs=>rw [e] at h;cases h;obtain ⟨a,vs,h1,h2,h3⟩:=ev_tup rs er e;exact ⟨a,vs,h1,.inr (.of h2),h3⟩
 | _=>rw [e] at h;cases h
theorem ev_sq {e1:Ev} {v:V} {ds:List D} (rs:RS C p σ F H) (er:EvR C.K p σ F e1 v) (h:seqL (lk p e1)=some ds):∃a vs,v=.ref a/\SqL C.K H a vs/\RepL C.K F ds vs:=by
 cases e:lk p e1 with
 | lst xs=>rw [e] at h;cases h;obtain ⟨a,vs,h1,h2,h3⟩:=ev_lst rs er e;exact ⟨a,vs,h1,.of h2,h3⟩
 | scr ns=>rw [e] at h;cases h;obtain ⟨a,h1,h2⟩:=ev_scr rs er e;exact ⟨a,_,h1,h2,.of_ints ns⟩
 | _=>rw [e] at h;cases h
def qIx (ta tb:TQ):TQ:=fun p Q=>ta p fun e1 p1=>tb p1 fun e2 p2=>∃ds k x,seqOf (lk p2 e1)=some ds/\lk p2 e2=.int k/\atI ds k=some x/\Q (.fz x) p2
theorem ix_seqK (h:X.K=K):IxR X (fun x y H Q=>rIxL K x y H Q\/rIxT K x y H Q):=by subst h;exact ix_list.or ix_tup
theorem q_ix (hK:X.K=C.K) (ha:PE X a (Up C ta)) (hb:PE X b (Up C tb)) (hs:PlainIx b):PE X (.Subscript a b pos) (Up C (qIx ta tb)):=
 QE.mk (pe_ix (ix_seqK hK) ha hb hs) fun p σ F H R rs ht=>up2 rs ht fun e1 e2 p1 v1 v2 F1 H1 rs1 s1 sh er1 er2 ⟨ds,k,x,h1,h2,h3,q⟩=>by
  obtain ⟨a1,vs,rfl,g,r⟩:=ev_seq rs1 er1 h1
  obtain ⟨v,e3,r3⟩:=r.at h3
  rw [ev_int er2 h2]
  rcases g with g|g
  ·exact .inl ⟨a1,vs,k,v,rfl,rfl,g,e3,fin_ev rs1 s1 sh r3 q⟩
  ·exact .inr ⟨a1,vs,k,v,rfl,rfl,g,e3,fin_ev rs1 s1 sh r3 q⟩
abbrev TOQ:=PSt->(Option Int->PSt->Prop)->Prop
def UpO (C:Pc) (t:TOQ):TO:=fun σ H Q=>∃p F R,RS C p σ F H/\t p R/\∀o H1,(∃p1 F1,RS C p1 σ F1 H1/\Same F F1/\Shp p p1/\R o p1)->Q o H1
def qoNone:TOQ:=fun p Q=>Q none p
def qoSome (t:TQ):TOQ:=fun p Q=>t p fun e p1=>∃i,lk p1 e=.int i/\Q (some i) p1
theorem QO.mk {e:Option Expr} {t:TO} {t':TOQ} (h:PO X e t) (hi:∀p σ F H R,RS C p σ F H->t' p R->t σ H (fun o H1=>∃p1 F1,RS C p1 σ F1 H1/\Same F F1/\Shp p p1/\R o p1)):PO X e (UpO C t'):=fun pins s σ H Q I ⟨p,F,R,rs,ht,hq⟩=>
 thn (h pins s σ H _ I (hi p σ F H R rs ht)) fun _ _ ⟨o,H1,I1,r1,q1⟩=>⟨o,H1,I1,r1,hq o H1 q1⟩
theorem o_none:PO X none (UpO C qoNone):=QO.mk po_none fun p σ F H R rs q=>⟨p,F,rs,.refl _,.refl _,q⟩
theorem o_some (h:PE X e (Up C ta)):PO X (some e) (UpO C (qoSome ta)):=QO.mk (po_some h) fun p σ F H R rs ht=>up1 rs ht fun e1 p1 v1 F1 H1 rs1 s1 sh er1 ⟨i,h1,q⟩=>⟨i,ev_int er1 h1,p1,F1,rs1,s1,sh,q⟩
def nSl (ta:TQ) (tl th:TOQ):TN:=fun p Q=>ta p fun e1 p1=>tl p1 fun lo p2=>th p2 fun hi p3=>∃ds,seqL (lk p3 e1)=some ds/\Q (.ro (cut ds lo hi)) p3
theorem n_sl {lo hi:Option Expr} {tl th:TOQ} {p2:Pos} (hK:X.K=C.K) (he:PE X e (Up C ta)) (hl:PO X lo (UpO C tl)) (hu:PO X hi (UpO C th)):PE X (.Subscript e (.Slice lo hi none p2) pos) (UpN C (nSl ta tl th)):=
 QN.mk (pe_slice (sl_listK hK) he hl hu) fun p σ F H R rs ht=>up1 rs ht fun e1 p1 v1 F1 H1 rs1 s1 sh1 er1 q1=>by
  refine ⟨p1,F1,_,rs1,q1,fun lo H2 ⟨p2,F2,rs2,s2,sh2,q2⟩=>?_⟩
  refine ⟨p2,F2,_,rs2,q2,fun hi H3 ⟨p3,F3,rs3,s3,sh3,ds,h1,q3⟩=>?_⟩
  obtain ⟨a1,vs,rfl,g,r⟩:=ev_sq rs3 (er1.mono (s2.trans s3) (sh2.trans sh3)) h1
  exact ⟨a1,vs,rfl,g,fun q hq=>fin_new rs3 (s1.trans (s2.trans s3)) (sh1.trans (sh2.trans sh3)) hq (r.cut lo hi) q3⟩
def nRev (ta:TQ):TN:=fun p Q=>ta p fun e1 p1=>∃ds,lk p1 e1=.lst ds/\Q (.ro ds.reverse) p1
theorem n_rev {p1 p2 p3:Pos} {j} (hK:X.K=C.K) (he:PE X e (Up C ta)):PE X (.Subscript e (.Slice none none (some (.UnaryOp .USub (.Constant (.int 1) j p1) p2)) p3) pos) (UpN C (nRev ta)):=
 QN.mk (pe_revK hK he) fun p σ F H R rs ht=>up1 rs ht fun e1 p1 v1 F1 H1 rs1 s1 sh er1 ⟨ds,h1,q⟩=>by
  obtain ⟨a1,vs,rfl,g,r⟩:=ev_lst rs1 er1 h1
  exact ⟨a1,vs,rfl,.of g,fun q' hq=>fin_new rs1 s1 sh hq r.reverse q⟩
def nCat (ta tb:TQ):TN:=fun p Q=>ta p fun e1 p1=>tb p1 fun e2 p2=>∃xs ys,lk p2 e1=.lst xs/\lk p2 e2=.lst ys/\xs.length+ys.length<=100000/\Q (.ro (xs++ys)) p2
theorem n_cat (ha:PE X a (Up C ta)) (hb:PE X b (Up C tb)):PE X (.BinOp a .Add b pos) (UpN C (nCat ta tb)):=
 QN.mk (pe_op op_cat ha hb) fun p σ F H R rs ht=>up2 rs ht fun e1 e2 p1 v1 v2 F1 H1 rs1 s1 sh er1 er2 ⟨xs,ys,h1,h2,hz,q⟩=>by
  obtain ⟨a1,vs1,rfl,g1,r1⟩:=ev_lst rs1 er1 h1
  obtain ⟨a2,vs2,rfl,g2,r2⟩:=ev_lst rs1 er2 h2
  exact ⟨a1,a2,vs1,vs2,rfl,rfl,g1,g2,line_of (by rw [<-r1.length,<-r2.length];exact hz),fun q' hq=>fin_new rs1 s1 sh hq (r1.append r2) q⟩
def nRep (ta tb:TQ):TN:=fun p Q=>ta p fun e1 p1=>tb p1 fun e2 p2=>∃xs k,lk p2 e1=.lst xs/\lk p2 e2=.int k/\k<2 ^ 62/\-(2 ^ 62)<=k/\xs.length * k.toNat<=100000/\Q (.ro (List.replicate k.toNat xs).flatten) p2
theorem n_rep (ha:PE X a (Up C ta)) (hb:PE X b (Up C tb)):PE X (.BinOp a .Mult b pos) (UpN C (nRep ta tb)):=
 QN.mk (pe_op op_rep ha hb) fun p σ F H R rs ht=>up2 rs ht fun e1 e2 p1 v1 v2 F1 H1 rs1 s1 sh er1 er2 ⟨xs,k,h1,h2,k1,k2,hz,q⟩=>by
  obtain ⟨a1,vs1,rfl,g1,r1⟩:=ev_lst rs1 er1 h1
  rw [ev_int er2 h2]
  exact ⟨a1,k,vs1,rfl,rfl,g1,by omega,by omega,line_of (by rw [<-r1.length];exact hz),fun q' hq=>fin_new rs1 s1 sh hq (r1.rep _) q⟩
variable {es:List Expr} {tas:TAQ} {x:Str} {ps:Pos}
def qLen (ta:TAQ):TQ:=fun p Q=>ta p fun es p1=>∃e ds,es=[e]/\seqOf (lk p1 e)=some ds/\Q (.fz (.int ds.length)) p1
theorem evs1 {es:List Ev} {e:Ev} {vs:List V} (h:EvRs C.K p σ F es vs) (z:es=[e]):∃v,vs=[v]/\EvR C.K p σ F e v:=by
 subst z
 cases h with
 | cons h t=>cases t;exact ⟨_,rfl,h⟩
theorem evs2 {es:List Ev} {e f:Ev} {vs:List V} (h:EvRs C.K p σ F es vs) (z:es=[e,f]):∃v w,vs=[v,w]/\EvR C.K p σ F e v/\EvR C.K p σ F f w:=by
 subst z
 cases h with
 | cons h t=>
  cases t with
  | cons h' t=>cases t;exact ⟨_,_,rfl,h,h'⟩
theorem cb_len (hK:X.K=C.K) (hg:Gl X "len") (hm:X.mg "len"=none) (ha:PA X [e] (UpA C tas)) (he:starEach [e] X.env=(false,eval e X.env)::starEach [] X.env:=by rfl):PE X (.Call (.Name "len" ps) [e] [] pos) (Up C (qLen tas)):=
 QE.mk (pe_callB (call_lenK hK) hg hm PySem.boot_len ha (he:=he)) fun p σ F H R rs ht=>upA1 rs ht fun es1 p1 vs1 F1 H1 rs1 s1 sh er1 ⟨e1,ds,h1,h2,q⟩=>by
  obtain ⟨v,rfl,er⟩:=evs1 er1 h1
  obtain ⟨a1,vs,rfl,g,r⟩:=ev_seq rs1 er h2
  exact ⟨a1,vs,rfl,g,fin_ev rs1 s1 sh (by rw [<-r.length];exact .int _) q⟩
def qSum (ta:TAQ):TQ:=fun p Q=>ta p fun es p1=>∃(e:Ev) (ns:List Int),es=[e]/\lk p1 e=.lst (ns.map D.int)/\Q (.fz (.int ns.sum)) p1
theorem cb_sum (hK:X.K=C.K) (hc:X.calm=true) (hg:Gl X "sum") (hm:X.mg "sum"=none) (ha:PA X [e] (UpA C tas)) (he:starEach [e] X.env=(false,eval e X.env)::starEach [] X.env:=by rfl):PE X (.Call (.Name "sum" ps) [e] [] pos) (Up C (qSum tas)):=
 QE.mk (pe_callB (call_sumK hK hc) hg hm (by kernel_rfl) ha (he:=he)) fun p σ F H R rs ht=>upA1 rs ht fun es1 p1 vs1 F1 H1 rs1 s1 sh er1 ⟨e1,ns,h1,h2,q⟩=>by
  obtain ⟨v,rfl,er⟩:=evs1 er1 h1
  obtain ⟨a1,vs,rfl,g,r⟩:=ev_lst rs1 er h2
  rw [r.ints] at g
  exact ⟨a1,ns,rfl,.of g,fin_ev rs1 s1 sh (.int _) q⟩
def qI2 (f:Int->Int->Int) (ta:TAQ):TQ:=fun p Q=>ta p fun es p1=>∃e1 e2 i j,es=[e1,e2]/\lk p1 e1=.int i/\lk p1 e2=.int j/\Q (.fz (.int (f i j))) p1
theorem cb_min (hc:X.calm=true) (hg:Gl X "min") (hm:X.mg "min"=none) (ha:PA X [a,b] (UpA C tas)) (he:starEach [a,b] X.env=(false,eval a X.env)::starEach [b] X.env:=by rfl) (hpl:(backTo pos (starEach [b] X.env)).any (·.1)=false:=by rfl) :
  PE X (.Call (.Name "min" ps) [a,b] [] pos) (Up C (qI2 (fun i j=>if j<i then j else i) tas)):=
 QE.mk (pe_callB (call_min2 hc) hg hm (by kernel_rfl) ha (he:=he) (hpl:=hpl)) fun p σ F H R rs ht=>upA1 rs ht fun es1 p1 vs1 F1 H1 rs1 s1 sh er1 ⟨e1,e2,i,j,h0,h1,h2,q⟩=>by
  obtain ⟨v,w,rfl,er,er'⟩:=evs2 er1 h0
  exact ⟨i,j,by rw [ev_int er h1,ev_int er' h2],fin_ev rs1 s1 sh (.int _) q⟩
def qDivmod (ta:TAQ):TQ:=fun p Q=>ta p fun es p1=>∃e1 e2 i j,es=[e1,e2]/\lk p1 e1=.int i/\lk p1 e2=.int j/\CDiv i j/\Q (.fz (.tup [.int (i / j),.int (i % j)])) p1
theorem cb_divmod (hg:Gl X "divmod") (hm:X.mg "divmod"=none) (ha:PA X [a,b] (UpA C tas)) (he:starEach [a,b] X.env=(false,eval a X.env)::starEach [b] X.env:=by rfl) (hpl:(backTo pos (starEach [b] X.env)).any (·.1)=false:=by rfl) :
  PE X (.Call (.Name "divmod" ps) [a,b] [] pos) (Up C (qDivmod tas)):=
 QE.mk (pe_callB call_divmod hg hm (by kernel_rfl) ha (he:=he) (hpl:=hpl)) fun p σ F H R rs ht=>upA1 rs ht fun es1 p1 vs1 F1 H1 rs1 s1 sh er1 ⟨e1,e2,i,j,h0,h1,h2,c,q⟩=>by
  obtain ⟨v,w,rfl,er,er'⟩:=evs2 er1 h0
  refine ⟨i,j,by rw [ev_int er h1,ev_int er' h2],c,fun a ha=>?_⟩
  obtain ⟨z1,z2,z3⟩:=rs1.free ha
  exact fin_ev (rs1.put ha) (s1.trans (same_upd z1 _)) sh (.tup upd_same (.cons (.int _) (.cons (.int _) .nil))) q
def toI:D->Option Int
 | .int i=>some i
 | .bl b=>some (if b then 1 else 0)
 | _=>none
def qToI (ta:TAQ):TQ:=fun p Q=>ta p fun es p1=>∃e i,es=[e]/\toI (lk p1 e)=some i/\Q (.fz (.int i)) p1
theorem cb_int (hg:Gl X "int") (hm:X.mg "int"=none) (ha:PA X [e] (UpA C tas)) (he:starEach [e] X.env=(false,eval e X.env)::starEach [] X.env:=by rfl):PE X (.Call (.Name "int" ps) [e] [] pos) (Up C (qToI tas)):=
 QE.mk (pe_callTy call_int1 hg hm (by kernel_rfl) ha (he:=he)) fun p σ F H R rs ht=>upA1 rs ht fun es1 p1 vs1 F1 H1 rs1 s1 sh er1 ⟨e1,i,h1,h2,q⟩=>by
  obtain ⟨v,rfl,er⟩:=evs1 er1 h1
  cases e2:lk p1 e1 with
  | int j=>rw [e2] at h2;cases h2;exact .inl ⟨i,by rw [ev_int er e2],fin_ev rs1 s1 sh (.int _) q⟩
  | bl k=>rw [e2] at h2;cases h2;exact .inr ⟨k,by rw [ev_bl er e2],fin_ev rs1 s1 sh (.int _) q⟩
  | _=>rw [e2] at h2;cases h2
def isTy (T:String):D->Option Bool
 | .int _=>some (T == "int")
 | .bl _=>some (T == "bool" || T == "int")
 | .lst _=>some (T == "list")
 | .tup _=>some (T == "tuple")
 | .str _=>some (T == "str")
 | .non=>some false
 | .dic _ _=>some false
 | .exb=>some false
 | _=>none
def tyName (T:String):Prop:=T="int"\/T="bool"\/T="list"\/T="tuple"\/T="str"
theorem isTy_ok {T:String} {e1:Ev} {v:V} {k:Bool} (hT:tyName T) (rs:RS C p σ F H) (er:EvR C.K p σ F e1 v) (h:isTy T (lk p e1)=some k):∃t,TyX C.K H v t/\PySem.W.kitOne C.K t (.type T)=some k:=by
 cases e:lk p e1 with
 | int i=>
  rw [e] at h;cases h
  rw [ev_int er e]
  rcases hT with rfl|rfl|rfl|rfl|rfl<;>exact ⟨_,.inl (.int _),by rfl⟩
 | bl i=>
  rw [e] at h;cases h
  rw [ev_bl er e]
  rcases hT with rfl|rfl|rfl|rfl|rfl<;>exact ⟨_,.inl (.bl _),by rfl⟩
 | lst xs=>
  rw [e] at h;cases h
  obtain ⟨a1,vs,rfl,g,r⟩:=ev_lst rs er e
  rcases hT with rfl|rfl|rfl|rfl|rfl<;>exact ⟨_,.inl (.lst g),by rfl⟩
 | tup xs=>
  rw [e] at h;cases h
  obtain ⟨a1,vs,rfl,g,r⟩:=ev_tup rs er e
  rcases hT with rfl|rfl|rfl|rfl|rfl<;>exact ⟨_,.inl (.tup g),by rfl⟩
 | str x=>
  rw [e] at h;cases h
  rw [ev_str er e]
  rcases hT with rfl|rfl|rfl|rfl|rfl<;>exact ⟨_,.inl (.str _),by rfl⟩
 | non=>
  rw [e] at h;cases h
  rw [ev_non er e]
  rcases hT with rfl|rfl|rfl|rfl|rfl<;>exact ⟨_,.inl (.non),by rfl⟩
 | dic ks ds=>
  rw [e] at h;cases h
  obtain ⟨a1,vs,rfl,g,l,r⟩:=ev_dic rs er e
  rcases hT with rfl|rfl|rfl|rfl|rfl<;>exact ⟨_,.inl (.dK g),by rfl⟩
 | exb=>
  rw [e] at h;cases h
  obtain ⟨a1,rfl,g⟩:=ev_exb rs er e
  rcases hT with rfl|rfl|rfl|rfl|rfl<;>exact ⟨_,.inr ⟨a1,a1,rfl,.inr ⟨g,rfl⟩⟩,by rfl⟩
 | _=>rw [e] at h;cases h
def qIsi (T:String) (ta:TAQ):TQ:=fun p Q=>ta p fun es p1=>∃e f k,es=[e,f]/\lk p1 f=.atom (.ty T)/\isTy T (lk p1 e)=some k/\Q (.fz (.bl k)) p1
theorem cb_isi {T:String} (hK:X.K=C.K) (hT:tyName T) (hg:Gl X "isinstance") (hm:X.mg "isinstance"=none) (ha:PA X [a,b] (UpA C tas)) (he:starEach [a,b] X.env=(false,eval a X.env)::starEach [b] X.env:=by rfl) (hpl:(backTo pos (starEach [b] X.env)).any (·.1)=false:=by rfl) :
  PE X (.Call (.Name "isinstance" ps) [a,b] [] pos) (Up C (qIsi T tas)):=
 QE.mk (pe_callB (call_isX hK) hg hm (by kernel_rfl) ha (he:=he) (hpl:=hpl)) fun p σ F H R rs ht=>upA1 rs ht fun es1 p1 vs1 F1 H1 rs1 s1 sh er1 ⟨e1,e2,k,h0,h1,h2,q⟩=>by
  obtain ⟨v,w,rfl,er,er'⟩:=evs2 er1 h0
  obtain ⟨t,ty,ek⟩:=isTy_ok hT rs1 er h2
  exact ⟨v,w,.type T,t,k,rfl,by rw [ev_atom er' h1];exact fun u h=>h,ty,ek,fin_ev rs1 s1 sh (.bl _) q⟩
theorem mut_at {i:Nat} {xs:List D} (rs:RS C p σ F H) (h:mutL p i=some xs):∃s a vs,p[i]? = some (some s)/\s.mu=true/\σ[i]? = some (some (.ref a))/\H a=some (.lst vs)/\RepL C.K F xs vs/\∀ys,putL p i ys=p.set i (some (s.put ys)):=by
 unfold mutL at h
 split at h
 ·rename_i ys e
  cases h
  obtain ⟨v,e1,a,vs,rfl,z1,z2,z3,z4⟩:=rs.sl i _ e
  exact ⟨_,a,vs,e,rfl,e1,z3,z4,fun ys=>by unfold putL;rw [e]⟩
 ·rename_i ys e
  cases h
  obtain ⟨v,e1,a,vs,rfl,z1,z2,z3,z4⟩:=rs.sl i _ e
  exact ⟨_,a,vs,e,rfl,e1,z3,z4,fun ys=>by unfold putL;rw [e]⟩
 ·cases h
theorem RS.put' {i:Nat} {xs ys:List D} {us:List V} {a:Addr} (rs:RS C p σ F H) (h:mutL p i=some xs) (ha:σ[i]? = some (some (.ref a))) (r:RepL C.K F ys us):RS C (putL p i ys) σ F (upd H a (.lst us))/\Shp p (putL p i ys):=by
 obtain ⟨s,a',vs,h1,h2,h3,h4,h5,h6⟩:=mut_at rs h
 rw [ha] at h3;cases h3
 rw [h6]
 exact rs.write h1 h2 ha r
theorem mut_var {i:Nat} {xs:List D} {Q:V->Hp->Prop} (rs:RS C p σ F H) (h:mutL p i=some xs) (k:∀a,σ[i]? = some (some (.ref a))->tyV C.K "list" (.ref a) H/\Q (.ref a) H):tVar i σ H fun x H1=>tyV C.K "list" x H1/\Q x H1:=by
 obtain ⟨s,a,vs,h1,h2,h3,h4,h5,h6⟩:=mut_at rs h
 exact ⟨.ref a,h3,k a h3⟩
theorem mut_ty {i:Nat} {xs:List D} {a:Addr} (rs:RS C p σ F H) (h:mutL p i=some xs) (ha:σ[i]? = some (some (.ref a))):tyV C.K "list" (.ref a) H:=by
 obtain ⟨s,a',vs,h1,h2,h3,h4,h5,h6⟩:=mut_at rs h
 rw [ha] at h3;cases h3
 exact .inl ⟨rfl,vs,.of h4⟩
def qApp (i:Nat) (ta:TAQ):TQ:=fun p Q=>(mutL p i).isSome=true/\ta p fun es p2=>∃x xs,es=[.fz x]/\mutL p2 i=some xs/\xs.length<100000/\Q (.fz .non) (putL p2 i (xs++[x]))
theorem m_append {o:Expr} {i:Nat} {apos:Pos} (hK:X.K=C.K) (ho:PE X o (tVar i)) (ha:PA X [e] (UpA C tas))
  (hbase:attributeBase o "append" X.env (eval o X.env)=eval o X.env:=by rfl)
  (hfew:((backTo pos (starEach [e] X.env)).all (fun x=>!x.1) && (backToKw pos (keywordEach [] X.env)).all (fun x=>x.1.isSome)
   && decide ([e].length+([]:List Keyword).length+(if ([]:List Keyword).isEmpty then 0 else 1)<30))=true:=by rfl)
  (hline:(apos.endLine == pos.line)=true:=by rfl) (hs:starEach [e] X.env=(false,eval e X.env)::starEach [] X.env:=by rfl):PE X (.Call (.Attribute o "append" apos) [e] [] pos) (Up C (qApp i tas)):=by
 refine QE.mk (pe_bm PySem.F.plainAttrs_list PySem.F.slot_list_append PySem.F.type_list_append mt_append ho ha hbase hfew hline hs rfl) fun p σ F H R rs ht=>?_
 obtain ⟨h0,ht⟩:=ht
 obtain ⟨xs0,h0⟩:=Option.isSome_iff_exists.mp h0
 rw [hK]
 refine mut_var rs h0 fun a1 hσ=>⟨mut_ty rs h0 hσ,upA1 rs ht fun es2 p2 vs2 F2 H2 rs2 s2 sh2 er2 ⟨x,xs,h2,h3,h4,q⟩=>?_⟩
 obtain ⟨v,rfl,er⟩:=evs1 er2 h2
 obtain ⟨s,a',vs,g1,g2,g3,g4,g5,g6⟩:=mut_at rs2 h3
 rw [hσ] at g3;cases g3
 obtain ⟨rs3,sh3⟩:=rs2.put' h3 hσ (g5.append (.cons er .nil))
 exact ⟨a1,vs,v,rfl,rfl,g4,by rw [<-g5.length];exact Nat.lt_of_lt_of_le h4 (by decide),fin_ev rs3 s2 (sh2.trans sh3) .non q⟩
def qRevM (i:Nat):TQ:=fun p Q=>∃xs,mutL p i=some xs/\Q (.fz .non) (putL p i xs.reverse)
theorem m_reverse {o:Expr} {i:Nat} {apos:Pos} (hK:X.K=C.K) (ho:PE X o (tVar i)) (hbase:attributeBase o "reverse" X.env (eval o X.env)=eval o X.env:=by rfl) (hline:(apos.endLine == pos.line)=true:=by rfl):PE X (.Call (.Attribute o "reverse" apos) [] [] pos) (Up C (qRevM i)):=by
 refine QE.mk (pe_bm0 PySem.F.plainAttrs_list PySem.F.slot_list_reverse PySem.F.type_list_reverse mt_reverse ho hbase hline) fun p σ F H R rs ht=>?_
 obtain ⟨xs,h3,q⟩:=ht
 rw [hK]
 refine mut_var rs h3 fun a1 hσ=>⟨mut_ty rs h3 hσ,?_⟩
 obtain ⟨s,a',vs,g1,g2,g3,g4,g5,g6⟩:=mut_at rs h3
 rw [hσ] at g3;cases g3
 obtain ⟨rs3,sh3⟩:=rs.put' h3 hσ g5.reverse
 exact ⟨a1,vs,rfl,rfl,g4,fin_ev rs3 (.refl _) sh3 .non q⟩
end
structure PEnds where
 nx:PSt->Prop
 rt:Rt->PSt->Prop
 bk:PSt->Prop:=fun _=>False
 ct:PSt->Prop:=fun _=>False
abbrev TSQ:=PEnds->PSt->Prop
def PEnds.dn (C:Pc) (F0:Hp) (E:PEnds):Ends where
 nx:=fun σ H=>∃p F,RS C p σ F H/\Same F0 F/\E.nx p
 rt:=fun v H=>∃r p σ F,RS C p σ F H/\Same F0 F/\RtR C p σ F H r v/\E.rt r p
 bk:=fun σ H=>∃p F,RS C p σ F H/\Same F0 F/\E.bk p
 ct:=fun σ H=>∃p F,RS C p σ F H/\Same F0 F/\E.ct p
structure Ends.Le (A B:Ends):Prop where
 nx:∀σ H,A.nx σ H->B.nx σ H
 rt:∀v H,A.rt v H->B.rt v H
 bk:∀σ H,A.bk σ H->B.bk σ H
 ct:∀σ H,A.ct σ H->B.ct σ H
theorem Ends.Le.trans {A B C:Ends} (a:Ends.Le A B) (b:Ends.Le B C):Ends.Le A C:=⟨fun _ _ h=>b.nx _ _ (a.nx _ _ h),fun _ _ h=>b.rt _ _ (a.rt _ _ h),fun _ _ h=>b.bk _ _ (a.bk _ _ h),fun _ _ h=>b.ct _ _ (a.ct _ _ h)⟩
theorem dn_le {C:Pc} {F F1:Hp} {E:PEnds} (s:Same F F1):(E.dn C F1).Le (E.dn C F):=⟨fun _ _ ⟨p,G,a,b,c⟩=>⟨p,G,a,s.trans b,c⟩,fun _ _ ⟨r,p,σ,G,a,b,c⟩=>⟨r,p,σ,G,a,s.trans b,c⟩,fun _ _ ⟨p,G,a,b,c⟩=>⟨p,G,a,s.trans b,c⟩,fun _ _ ⟨p,G,a,b,c⟩=>⟨p,G,a,s.trans b,c⟩⟩
def UpS (C:Pc) (t:TSQ):TS:=fun De σ H=>∃p F E,RS C p σ F H/\t E p/\(E.dn C F).Le De
def nbr (p:PSt) (i:Nat):Bool:=match p[i]? with
 | some (some (.bor _))=>false
 | _=>true
section
variable {X:Cx} {C:Pc} {a b c e:Expr} {ta tb tc:TQ} {pos:Pos} {K:PySem.W.Frag} {p:PSt} {σ:St} {F H:Hp} {st:Stmt} {rest:List Stmt} {t u:TSQ}
theorem SP.le {pins:List (Addr × Obj)} {A B:Ends} {f:Flow} {s':Shared} (l:Ends.Le A B) (h:SP X pins A f s'):SP X pins B f s':=by
 cases f with
 | next=>obtain ⟨σ',H',I,q⟩:=h;exact ⟨σ',H',I,l.nx _ _ q⟩
 | brk=>obtain ⟨σ',H',I,q⟩:=h;exact ⟨σ',H',I,l.bk _ _ q⟩
 | cont=>obtain ⟨σ',H',I,q⟩:=h;exact ⟨σ',H',I,l.ct _ _ q⟩
 | ret u=>obtain ⟨v,σ',H',I,r,q⟩:=h;exact ⟨v,σ',H',I,r,l.rt _ _ q⟩
theorem QS.mk {t:TS} {t':TSQ} (h:PS X st t) (hi:∀p σ F H E,RS C p σ F H->t' E p->t (E.dn C F) σ H):PS X st (UpS C t'):=fun pins s σ H De I ⟨p,F,E,rs,ht,l⟩=>
 thn (h pins s σ H _ I (hi p σ F H E rs ht)) fun _ _ q=>q.le l
theorem QSs.mk {sts:List Stmt} {t:TS} {t':TSQ} (h:PSs X sts t) (hi:∀p σ F H E,RS C p σ F H->t' E p->t (E.dn C F) σ H):PSs X sts (UpS C t'):=fun pins s σ H De I ⟨p,F,E,rs,ht,l⟩=>
 thn (h pins s σ H _ I (hi p σ F H E rs ht)) fun _ _ q=>q.le l
def qNext:TSQ:=fun E p=>E.nx p
def qSeq (t u:TSQ):TSQ:=fun E p=>t { E with nx:=u E } p
theorem s_nil:PSs X [] (UpS C qNext):=QSs.mk pss_nil fun p σ F H E rs q=>⟨p,F,rs,.refl _,q⟩
theorem s_cons (h1:PS X st (UpS C t)) (h2:PSs X rest (UpS C u)):PSs X (st::rest) (UpS C (qSeq t u)):=
 QSs.mk (pss_cons h1 h2) fun p σ F H E rs q=>⟨p,F,_,rs,q,⟨fun σ1 H1 ⟨p1,F1,rs1,s1,q1⟩=>⟨p1,F1,E,rs1,q1,dn_le s1⟩,fun _ _ h=>h,fun _ _ h=>h,fun _ _ h=>h⟩⟩
theorem s_one (h1:PS X st (UpS C t)):PSs X [st] (UpS C t):=pss_one h1
def qDrop (t:TQ):TSQ:=fun E p=>t p fun _ p1=>E.nx p1
theorem s_expr (he:PE X e (Up C ta)) (hs:swapsWith e none pos.line X.env=pure false:=by rfl):PS X (.Expr e pos) (UpS C (qDrop ta)):=
 QS.mk (ps_expr he hs) fun p σ F H E rs ht=>up1 rs ht fun e1 p1 v1 F1 H1 rs1 s1 sh er1 q=>⟨p1,F1,rs1,s1,q⟩
def qRet (t:TN):TSQ:=fun E p=>t p E.rt
theorem s_ret {t:TN} (he:PE X e (UpN C t)):PS X (.Return (some e) pos) (UpS C (qRet t)):=
 QS.mk (ps_ret he) fun p σ F H E rs ht=>upN1 rs ht fun r p1 v1 F1 H1 rs1 s1 sh rr q=>⟨r,p1,σ,F1,rs1,s1,rr,q⟩
def qIfS (c:TTQ) (t u:TSQ):TSQ:=fun E p=>c p fun b p1=>if b=true then t E p1 else u E p1
theorem s_if {c:Expr} {a b:List Stmt} {tc:TTQ} (hc:PT X c (UpT C tc)) (ha:PSs X a (UpS C t)) (hb:PSs X b (UpS C u)):PS X (.If c a b pos) (UpS C (qIfS tc t u)):=
 QS.mk (ps_if hc ha hb) fun p σ F H E rs ht=>upT1 rs ht fun k p1 F1 H1 rs1 s1 sh q=>ite_imp (fun q=>⟨p1,F1,E,rs1,q,dn_le s1⟩) (fun q=>⟨p1,F1,E,rs1,q,dn_le s1⟩) q
def qNever:TSQ:=fun _ _=>False
theorem s_never:PS X st (UpS C qNever):=fun _ _ _ _ _ _ ⟨_,_,_,_,h,_⟩=>h.elim
theorem RS.clear {i:Nat} (rs:RS C p σ F H) (h:nbr p i=true):RS C (p.set i none) σ F H:=by
 refine ⟨rs.sub,rs.ext,rs.new,rs.keep,rs.grow,by rw [List.length_set];exact rs.len,fun j s e=>?_,fun j k s s' x hjk e1 m1 e2 m2 x1 x2=>?_,fun q hq=>?_⟩
 ·by_cases hj:i=j
  ·subst hj
   rw [List.getElem?_set] at e
   simp at e
  ·rw [List.getElem?_set_ne hj] at e;exact rs.sl j s e
 ·have back:∀(j:Nat) (s:Sl),(p.set i none)[j]? = some (some s)->p[j]? = some (some s):=fun j s e=>by
   by_cases hj:i=j
   ·subst hj;rw [List.getElem?_set] at e;simp at e
   ·rw [List.getElem?_set_ne hj] at e;exact e
  exact rs.apart j k s s' x hjk (back _ _ e1) m1 (back _ _ e2) m2 x1 x2
 ·obtain ⟨z1,xs,z2⟩:=rs.pin q hq
  refine ⟨z1,xs,?_⟩
  by_cases hj:i=q.1
  ·rw [hj] at h
   unfold nbr at h
   rw [z2] at h;cases h
  ·rw [List.getElem?_set_ne hj];exact z2
theorem RS.setD {i:Nat} {x:D} {v:V} (rs:RS C p σ F H) (h:nbr p i=true) (r:Rep C.K F x v):RS C (p.set i (some (.d x))) (σ.set i (some v)) F H:=by
 have ne:∀q∈C.bs,i≠q.1:=fun q hq z=>by
  obtain ⟨z1,xs,z2⟩:=rs.pin q hq
  rw [z] at h
  unfold nbr at h
  rw [z2] at h;cases h
 refine ⟨rs.sub,rs.ext,rs.new,rs.keep,rs.grow,by rw [List.length_set,List.length_set];exact rs.len,fun j s e=>?_,fun j k s s' y hjk e1 m1 e2 m2 x1 x2=>?_,fun q hq=>?_⟩
 ·by_cases hj:i=j
  ·subst hj
   have hi:i<p.length:=by
    have:=(List.getElem?_eq_some_iff.mp e).1
    rwa [List.length_set] at this
   rw [List.getElem?_set_self hi] at e
   cases e
   exact ⟨v,List.getElem?_set_self (by rw [<-rs.len];exact hi),r⟩
  ·rw [List.getElem?_set_ne hj] at e
   rw [List.getElem?_set_ne hj]
   exact rs.sl j s e
 ·have back:∀(j:Nat) (s:Sl),(p.set i (some (.d x)))[j]? = some (some s)->s.mu=true->i≠j/\p[j]? = some (some s):=fun j s e m=>by
   by_cases hj:i=j
   ·subst hj
    have hi:i<p.length:=by
     have:=(List.getElem?_eq_some_iff.mp e).1
     rwa [List.length_set] at this
    rw [List.getElem?_set_self hi] at e
    cases e;cases m
   ·rw [List.getElem?_set_ne hj] at e;exact ⟨hj,e⟩
  obtain ⟨n1,f1⟩:=back j s e1 m1
  obtain ⟨n2,f2⟩:=back k s' e2 m2
  rw [List.getElem?_set_ne n1] at x1
  rw [List.getElem?_set_ne n2] at x2
  exact rs.apart j k s s' y hjk f1 m1 f2 m2 x1 x2
 ·obtain ⟨z1,xs,z2⟩:=rs.pin q hq
  exact ⟨by rw [List.getElem?_set_ne (ne q hq)];exact z1,xs,by rw [List.getElem?_set_ne (ne q hq)];exact z2⟩
theorem RS.setO {i:Nat} {xs:List D} {vs:List V} {x:Addr} (rs:RS C p σ F H) (h:nbr p i=true) (h1:F x=none) (h2:C.H0 x=none) (h3:H x=some (.lst vs)) (h4:RepL C.K F xs vs) (h5:Mine p σ x) :
  RS C (p.set i (some (.own xs))) (σ.set i (some (.ref x))) F H:=by
 have ne:∀q∈C.bs,i≠q.1:=fun q hq z=>by
  obtain ⟨z1,xs,z2⟩:=rs.pin q hq
  rw [z] at h
  unfold nbr at h
  rw [z2] at h;cases h
 have back:∀(j:Nat) (s:Sl),(p.set i (some (.own xs)))[j]? = some (some s)->(i=j/\i<p.length/\s=.own xs)\/(i≠j/\p[j]? = some (some s)):=fun j s e=>by
  by_cases hj:i=j
  ·subst hj
   have hi:i<p.length:=by
    have:=(List.getElem?_eq_some_iff.mp e).1
    rwa [List.length_set] at this
   rw [List.getElem?_set_self hi] at e
   cases e
   exact .inl ⟨rfl,hi,rfl⟩
  ·rw [List.getElem?_set_ne hj] at e;exact .inr ⟨hj,e⟩
 refine ⟨rs.sub,rs.ext,rs.new,rs.keep,rs.grow,by rw [List.length_set,List.length_set];exact rs.len,fun j s e=>?_,fun j k s s' y hjk e1 m1 e2 m2 x1 x2=>?_,fun q hq=>?_⟩
 ·rcases back j s e with ⟨rfl,hi,rfl⟩|⟨hj,e⟩
  ·exact ⟨.ref x,List.getElem?_set_self (by rw [<-rs.len];exact hi),x,vs,rfl,h1,h2,h3,h4⟩
  ·rw [List.getElem?_set_ne hj]
   exact rs.sl j s e
 ·rcases back j s e1 with ⟨rfl,hi,rfl⟩|⟨hj,f1⟩
  ·rcases back k s' e2 with ⟨rfl,_,rfl⟩|⟨hk,f2⟩
   ·exact hjk rfl
   ·rw [List.getElem?_set_self (by rw [<-rs.len];exact hi)] at x1
    cases x1
    rw [List.getElem?_set_ne hk] at x2
    exact h5 k s' f2 m2 x2
  ·rcases back k s' e2 with ⟨rfl,hi,rfl⟩|⟨hk,f2⟩
   ·rw [List.getElem?_set_self (by rw [<-rs.len];exact hi)] at x2
    cases x2
    rw [List.getElem?_set_ne hj] at x1
    exact h5 j s f1 m1 x1
   ·rw [List.getElem?_set_ne hj] at x1
    rw [List.getElem?_set_ne hk] at x2
    exact rs.apart j k s s' y hjk f1 m1 f2 m2 x1 x2
 ·obtain ⟨z1,ys,z2⟩:=rs.pin q hq
  exact ⟨by rw [List.getElem?_set_ne (ne q hq)];exact z1,ys,by rw [List.getElem?_set_ne (ne q hq)];exact z2⟩
def qRetO (i:Nat):TSQ:=fun E p=>∃xs,p[i]? = some (some (.own xs))/\E.rt (.ro xs) (p.set i none)
theorem s_retO {i:Nat} (he:PE X e (tVar i)):PS X (.Return (some e) pos) (UpS C (qRetO i)):=QS.mk (ps_ret he) fun p σ F H E rs ⟨xs,h,q⟩=>by
 obtain ⟨v,e1,x,vs,rfl,z1,z2,z3,z4⟩:=rs.sl i _ h
 have hn:nbr p i=true:=by unfold nbr;rw [h]
 have mi:Mine (p.set i none) σ x:=fun j s e m z=>by
  by_cases hj:i=j
  ·subst hj;rw [List.getElem?_set] at e;simp at e
  ·rw [List.getElem?_set_ne hj] at e
   exact rs.apart j i s _ x (Ne.symm hj) e m h rfl z e1
 exact ⟨.ref x,e1,.ro xs,_,σ,F,rs.clear hn,.refl _,⟨x,vs,rfl,z1,z2,z3,z4,mi⟩,q⟩
def qSet (i:Nat) (t:TQ):TSQ:=fun E p=>t p fun e p1=>∃x,e=.fz x/\nbr p1 i=true/\E.nx (p1.set i (some (.d x)))
theorem s_set {i:Nat} {x:Str} {pos':Pos} (hN:X.N.Nodup) (hi:X.N[i]? = some x) (hx:Loc X.env.scope x) (he:PE X e (Up C ta)) (hs:swapsWith e (some (.Name x pos')) pos.line X.env=pure false:=by rfl) (hf:X.fn x=true\/X.env.scope.names.lookup x=some .local:=by first|exact .inl rfl|exact .inr rfl|assumption) :
  PS X (.Assign [.Name x pos'] e pos) (UpS C (qSet i ta)):=
 QS.mk (ps_set hN hi hx he hs hf) fun p σ F H E rs ht=>up1 rs ht fun e1 p1 v1 F1 H1 rs1 s1 sh er1 ⟨y,hy,hn,q⟩=>⟨_,F1,rs1.setD hn (by subst hy;exact er1),s1,q⟩
def qSetN (i:Nat) (t:TN):TSQ:=fun E p=>t p fun r p1=>nbr p1 i=true/\E.nx (p1.set i (some r.sl))
theorem s_setN {i:Nat} {x:Str} {t:TN} {pos':Pos} (hN:X.N.Nodup) (hi:X.N[i]? = some x) (hx:Loc X.env.scope x) (he:PE X e (UpN C t)) (hs:swapsWith e (some (.Name x pos')) pos.line X.env=pure false:=by rfl) (hf:X.fn x=true\/X.env.scope.names.lookup x=some .local:=by first|exact .inl rfl|exact .inr rfl|assumption) :
  PS X (.Assign [.Name x pos'] e pos) (UpS C (qSetN i t)):=
 QS.mk (ps_set hN hi hx he hs hf) fun p σ F H E rs ht=>upN1 rs ht fun r p1 v1 F1 H1 rs1 s1 sh rr ⟨hn,q⟩=>by
  cases r with
  | rd y=>exact ⟨_,F1,rs1.setD hn rr,s1,q⟩
  | ro xs=>
   obtain ⟨x,vs,rfl,z1,z2,z3,z4,z5⟩:=rr
   exact ⟨_,F1,rs1.setO hn z1 z2 z3 z4 z5,s1,q⟩
def qAug (i:Nat) (g:Int->Int->Int) (Cn:Int->Int->Prop) (t:TQ):TSQ:=fun E p=>∃n,p[i]? = some (some (.d (.int n)))/\t p fun e p1=>∃j,lk p1 e=.int j/\Cn n j/\nbr p1 i=true/\E.nx (p1.set i (some (.d (.int (g n j)))))
theorem s_aug {i:Nat} {x:Str} {op:Operator} {g:Int->Int->Int} {Cn:Int->Int->Prop} {r:R2} {pos':Pos} (ho:OpR X (inplaceOp op) r) (hr:∀i j H Q,Cn i j->Q (.int (g i j)) H->r (.int i) (.int j) H Q) (hN:X.N.Nodup) (hi:X.N[i]? = some x) (hx:Loc X.env.scope x) (he:PE X e (Up C ta)) (hf:X.fn x=true\/X.env.scope.names.lookup x=some .local:=by first|exact .inl rfl|exact .inr rfl|assumption) :
  PS X (.AugAssign (.Name x pos') op e pos) (UpS C (qAug i g Cn ta)):=
 QS.mk (ps_aug hN hi hx he ho hf) fun p σ F H E rs ⟨n,h0,ht⟩=>by
  obtain ⟨v,e1,r1⟩:=rs.sl i _ h0
  cases r1
  exact ⟨.int n,e1,up1 rs ht fun e1 p1 v1 F1 H1 rs1 s1 sh er1 ⟨j,hj,hc,hn,q⟩=>by
   rw [ev_int er1 hj]
   exact hr n j H1 _ hc ⟨_,F1,rs1.setD hn (.int _),s1,q⟩⟩
def tr2 (i j:Int):Prop:=True
theorem s_iadd {i:Nat} {x:Str} {pos':Pos} (hN:X.N.Nodup) (hi:X.N[i]? = some x) (hx:Loc X.env.scope x) (he:PE X e (Up C ta)) (hf:X.fn x=true\/X.env.scope.names.lookup x=some .local:=by first|exact .inl rfl|exact .inr rfl|assumption) :
  PS X (.AugAssign (.Name x pos') .Add e pos) (UpS C (qAug i (fun a b=>a+b) tr2 ta)):=s_aug iop_add (fun i j H Q _ q=>⟨i,j,rfl,rfl,q⟩) hN hi hx he hf
theorem s_isub {i:Nat} {x:Str} {pos':Pos} (hN:X.N.Nodup) (hi:X.N[i]? = some x) (hx:Loc X.env.scope x) (he:PE X e (Up C ta)) (hf:X.fn x=true\/X.env.scope.names.lookup x=some .local:=by first|exact .inl rfl|exact .inr rfl|assumption) :
  PS X (.AugAssign (.Name x pos') .Sub e pos) (UpS C (qAug i (fun a b=>a - b) tr2 ta)):=s_aug iop_sub (fun i j H Q _ q=>⟨i,j,rfl,rfl,q⟩) hN hi hx he hf
theorem s_imul {i:Nat} {x:Str} {pos':Pos} (hN:X.N.Nodup) (hi:X.N[i]? = some x) (hx:Loc X.env.scope x) (he:PE X e (Up C ta)) (hf:X.fn x=true\/X.env.scope.names.lookup x=some .local:=by first|exact .inl rfl|exact .inr rfl|assumption) :
  PS X (.AugAssign (.Name x pos') .Mult e pos) (UpS C (qAug i (fun a b=>a * b) CMul ta)):=s_aug iop_mul (fun i j H Q c q=>⟨i,j,rfl,rfl,c,q⟩) hN hi hx he hf
def qSetI (i:Nat) (te tk:TQ):TSQ:=fun E p=>te p fun ev p1=>(mutL p1 i).isSome=true/\tk p1 fun kv p2=>∃x xs k j,ev=.fz x/\mutL p2 i=some xs/\lk p2 kv=.int k/\ixN xs.length k=some j/\E.nx (putL p2 i (xs.set j x))
theorem s_setI {i : Nat} {o k : Expr} {te tk : TQ} {pt : Pos} (he : PE X e (Up C te)) (ho : PE X o (tVar i)) (hk : PE X k (Up C tk))
    (ha : ∀ v, assign (.Subscript o k pt) X.env v = (do
      let ov ← holding [v] (eval o X.env)
      let iv ← holding [v, ov] (eval k X.env)
      standAt pt
      holding [v, ov, iv] (setItem ov iv v)
      release [v, ov, iv] []) := by intro _; rfl)
    (hs : swapsWithSole [.Subscript o k pt] e pos.line X.env = pure false := by rfl) (hw : swappedStores [.Subscript o k pt] e X.env = pure none := by rfl)
    (h1 : (assignEach [.Subscript o k pt] X.env).map (·.2) = [assign (.Subscript o k pt) X.env] := by rfl) :
    PS X (.Assign [.Subscript o k pt] e pos) (UpS C (qSetI i te tk)) :=
  QS.mk (ps_asg he (pg_sub ho hk set_list ha) hs hw h1) fun p σ F H E rs ht => up1 rs ht fun e1 p1 v1 F1 H1 rs1 s1 sh er1 ⟨h0, ht⟩ => by
    obtain ⟨xs0, h0⟩ := Option.isSome_iff_exists.mp h0
    obtain ⟨s, x, vs, g1, g2, g3, g4, g5, g6⟩ := mut_at rs1 h0
    refine ⟨.ref x, g3, up1 rs1 ht fun e2 p2 v2 F2 H2 rs2 s2 sh2 er2 ⟨y, xs, k, j, hy, hm, hk, hj, q⟩ => ?_⟩
    obtain ⟨s', x', vs', k1, k2, k3, k4, k5, k6⟩ := mut_at rs2 hm
    rw [g3] at k3; cases k3
    subst hy
    obtain ⟨rs3, sh3⟩ := rs2.put' hm g3 (RepL.set (Rep.mono s2 er1) j k5)
    exact ⟨x, vs', k, j, rfl, ev_int er2 hk, k4, by rw [← k5.length]; exact hj, _, F2, rs3, s1.trans s2, q⟩
end
abbrev TGQ:=D->PSt->(PSt->Prop)->Prop
abbrev TGsQ:=List D->PSt->(PSt->Prop)->Prop
def XG (C:Pc) (F:Hp) (R:PSt->Prop) (σ1:St) (H1:Hp):Prop:=∃p1 F1,RS C p1 σ1 F1 H1/\Same F F1/\R p1
def UpG (C:Pc) (g:TGQ):TG:=fun v σ H Q=>∃p F x R,RS C p σ F H/\Rep C.K F x v/\g x p R/\∀σ1 H1,XG C F R σ1 H1->Q σ1 H1
def UpGs (C:Pc) (g:TGsQ):TGs:=fun vs σ H Q=>∃p F xs R,RS C p σ F H/\RepL C.K F xs vs/\g xs p R/\∀σ1 H1,XG C F R σ1 H1->Q σ1 H1
section
variable {X:Cx} {C:Pc} {a b c e:Expr} {ta tb tc:TQ} {pos:Pos} {K:PySem.W.Frag} {p:PSt} {σ:St} {F H:Hp} {st:Stmt} {rest:List Stmt} {t u:TSQ}
theorem QG.mk {tg:Expr} {g:TG} {g':TGQ} (h:PG X tg g) (hi:∀p σ F H x v R,RS C p σ F H->Rep C.K F x v->g' x p R->g v σ H (XG C F R)):PG X tg (UpG C g'):=fun pins s σ H v u Q I r ⟨p,F,x,R,rs,rx,hg,hq⟩=>
 thn (h pins s σ H v u _ I r (hi p σ F H x v R rs rx hg)) fun _ _ ⟨σ1,H1,I1,q1⟩=>⟨σ1,H1,I1,hq σ1 H1 q1⟩
theorem QGs.mk {tgs:List Expr} {g:TGs} {g':TGsQ} (h:PGs X tgs g) (hi:∀p σ F H xs vs R,RS C p σ F H->RepL C.K F xs vs->g' xs p R->g vs σ H (XG C F R)):PGs X tgs (UpGs C g'):=fun pins s σ H v u Q I r ⟨p,F,x,R,rs,rx,hg,hq⟩=>
 thn (h pins s σ H v u _ I r (hi p σ F H x v R rs rx hg)) fun _ _ ⟨σ1,H1,I1,q1⟩=>⟨σ1,H1,I1,hq σ1 H1 q1⟩
def gqName (i:Nat):TGQ:=fun x p Q=>nbr p i=true/\Q (p.set i (some (.d x)))
theorem g_name {i:Nat} {x:Str} (hN:X.N.Nodup) (hi:X.N[i]? = some x) (hx:Loc X.env.scope x) (hf:X.fn x=true\/X.env.scope.names.lookup x=some .local:=by first|exact .inl rfl|exact .inr rfl|assumption):PG X (.Name x pos) (UpG C (gqName i)):=
 QG.mk (pg_name hN hi hx hf) fun p σ F H x v R rs rx ⟨hn,q⟩=>⟨_,F,rs.setD hn rx,.refl _,q⟩
def gqNil:TGsQ:=fun xs p Q=>xs=[]/\Q p
def gqCons (g:TGQ) (gs:TGsQ):TGsQ:=fun xs p Q=>∃x r,xs=x::r/\g x p fun p1=>gs r p1 Q
theorem gs_nil:PGs X [] (UpGs C gqNil):=QGs.mk pgs_nil fun p σ F H xs vs R rs rx ⟨h,q⟩=>by
 subst h;cases rx
 exact ⟨rfl,p,F,rs,.refl _,q⟩
theorem gs_cons {e:Expr} {es:List Expr} {g:TGQ} {gs:TGsQ} (h1:PG X e (UpG C g)) (h2:PGs X es (UpGs C gs))
  (hs:(assignEach (e::es) X.env).map (·.2)=assign e X.env::(assignEach es X.env).map (·.2):=by rfl):PGs X (e::es) (UpGs C (gqCons g gs)):=
 QGs.mk (pgs_cons h1 h2 hs) fun p σ F H xs vs R rs rx ⟨x,r,hx,q⟩=>by
  subst hx
  cases rx with
  | cons r1 r2=>
   refine ⟨_,_,rfl,p,F,x,_,rs,r1,q,fun σ1 H1 ⟨p1,F1,rs1,s1,q1⟩=>?_⟩
   exact ⟨p1,F1,r,R,rs1,r2.mono s1,q1,fun σ2 H2 ⟨p2,F2,rs2,s2,q2⟩=>⟨p2,F2,rs2,s1.trans s2,q2⟩⟩
def gqTup (n:Nat) (gs:TGsQ):TGQ:=fun x p Q=>∃xs,x=.tup xs/\xs.length=n/\gs xs p Q
theorem g_tup {es:List Expr} {k:Nat} {gs:TGsQ} {n:Nat} (hK:X.K=C.K) (hc:X.calm=true) (h:PGs X es (UpGs C gs)) (hn:(assignEach es X.env).length=n:=by rfl) (hst:(assignEach es X.env).findIdx? (·.1)=none:=by rfl):PG X (.Tuple es k pos) (UpG C (gqTup n gs)):=
 QG.mk (pg_tupK hK hc h hn hst) fun p σ F H x v R rs rx ⟨xs,hx,hl,q⟩=>by
  subst hx
  cases rx with
  | tup q1 r1=>exact ⟨_,_,rfl,.of (rs.sub _ _ q1),by rw [<-r1.length];exact hl,p,F,xs,R,rs,r1,q,fun _ _ h=>h⟩
def qAsg (t:TQ) (g:TGQ):TSQ:=fun E p=>t p fun e p1=>∃x,e=.fz x/\g x p1 E.nx
theorem s_asg {tg e:Expr} {g:TGQ} (he:PE X e (Up C ta)) (hg:PG X tg (UpG C g)) (hs:swapsWithSole [tg] e pos.line X.env=pure false:=by rfl) (hw:swappedStores [tg] e X.env=pure none:=by rfl)
  (h1:(assignEach [tg] X.env).map (·.2)=[assign tg X.env]:=by rfl):PS X (.Assign [tg] e pos) (UpS C (qAsg ta g)):=
 QS.mk (ps_asg he hg hs hw h1) fun p σ F H E rs ht=>up1 rs ht fun e1 p1 v1 F1 H1 rs1 s1 sh er1 ⟨x,hx,q⟩=>by
  subst hx
  exact ⟨p1,F1,x,_,rs1,er1,q,fun σ2 H2 ⟨p2,F2,rs2,s2,q2⟩=>⟨p2,F2,rs2,s1.trans s2,q2⟩⟩
structure JQ (K:PySem.W.Frag) (J:It) (n:Nat) (item:Nat->D) (F1:Hp):Prop where
 go:∀i F H,Same F H->Same F1 F->i<n->J.go i H
 yld:∀i F H x H',Same F H->Same F1 F->i<n->J.yld i H x H'->(H'=H/\Rep K F (item i) x)\/∃t xs vs,H t=none/\H'=upd H t (.tup vs)/\x=.ref t/\item i=.tup xs/\RepL K F xs vs
 stop:∀F H,Same F H->Same F1 F->J.stop n H
theorem JQ.out {J:It} {n:Nat} {item:Nat->D} {F1:Hp} {i:Nat} {x:V} {H':Hp} (jq:JQ C.K J n item F1) (rs:RS C p σ F H) (s:Same F1 F) (hi:i<n) (y:J.yld i H x H'):∃F',RS C p σ F' H'/\Same F F'/\Rep C.K F' (item i) x:=by
 rcases jq.yld i F H x H' rs.sub s hi y with ⟨rfl,r⟩|⟨t,xs,vs,h1,h2,h3,h4,h5⟩
 ·exact ⟨F,rs,.refl _,r⟩
 ·obtain ⟨z1,z2,z3⟩:=rs.free h1
  subst h2 h3
  rw [h4]
  exact ⟨_,rs.put h1,same_upd z1 _,.tup upd_same (h5.mono (same_upd z1 _))⟩
abbrev TIQ:=PSt->(Nat->(Nat->D)->PSt->Prop)->Prop
def XI (C:Pc) (p:PSt) (σ:St) (F:Hp) (R:Nat->(Nat->D)->PSt->Prop) (J:It) (H1:Hp):Prop:=∃n item p1 F1,RS C p1 σ F1 H1/\Same F F1/\Shp p p1/\JQ C.K J n item F1/\R n item p1
def UpI (C:Pc) (t:TIQ):TI:=fun σ H Q=>∃p F R,RS C p σ F H/\t p R/\∀J H1,XI C p σ F R J H1->Q J H1
theorem QI.mk {tg iter:Expr} {t:TI} {t':TIQ} (h:PI X tg iter t) (hi:∀p σ F H R,RS C p σ F H->t' p R->t σ H (XI C p σ F R)):PI X tg iter (UpI C t'):=fun pins s σ H Q I ⟨p,F,R,rs,ht,hq⟩=>
 thn (h pins s σ H _ I (hi p σ F H R rs ht)) fun _ _ h1=>thn h1 fun _ _ ⟨it,fp,tn,J,H',z1,z2,z3,z4,z5,z6⟩=>⟨it,fp,tn,J,H',z1,z2,z3,z4,z5,hq J H' z6⟩
theorem jq_rng (lo:Int) (n:Nat):JQ K (Itr lo n) n (fun i=>.int (lo+i)) F:=⟨fun i F H _ _ h=>h,fun i F H x H' _ _ _ ⟨h1,h2⟩=>by subst h1 h2;exact .inl ⟨rfl,.int _⟩,fun _ _ _ _=>Nat.le_refl _⟩
theorem getD_some {ds:List D} {i:Nat} (h:i<ds.length):ds[i]? = some (ds.getD i .non):=by
 rw [List.getD_eq_getElem?_getD,List.getElem?_eq_getElem h];rfl
theorem jq_lst {x:Addr} {vs:List V} {ds:List D} (h:F x=some (.lst vs)) (r:RepL K F ds vs):JQ K (Itl K x) ds.length (fun i=>ds.getD i .non) F:=by
 have sq:∀{F1 H:Hp},Same F1 H->Same F F1->SqL K H x vs:=fun rs s=>.of (rs _ _ (s _ _ h))
 refine ⟨fun i F1 H rs s hi=>?_,fun i F1 H v H' rs s hi y=>?_,fun F1 H rs s=>⟨vs,sq rs s,by rw [r.length];exact Nat.le_refl _⟩⟩
 ·obtain ⟨v,e1,_⟩:=r.get (getD_some hi)
  exact ⟨vs,v,sq rs s,e1⟩
 ·obtain ⟨e1,e2⟩:=y
  subst e1
  obtain ⟨w,e3,r3⟩:=r.get (getD_some hi)
  have:=e2 vs (sq rs s)
  rw [e3] at this;cases this
  exact .inl ⟨rfl,r3.mono s⟩
variable {tg:Expr} {tas:TAQ} {ps ps2:Pos}
def iqR1 (ta:TAQ):TIQ:=fun p Q=>ta p fun es p1=>∃e j,es=[e]/\lk p1 e=.int j/\-(2 ^ 62)<=j/\j<2 ^ 62/\Q j.toNat (fun i=>.int (0+i)) p1
theorem i_range1 (hg:Gl X "range") (hm:X.mg "range"=none) (ha:PA X [a] (UpA C tas)) (hs:starEach [a] X.env=[(false,eval a X.env)]:=by rfl):PI X tg (.Call (.Name "range" ps) [a] [] pos) (UpI C (iqR1 tas)):=
 QI.mk (pi_range1 hg hm ha hs) fun p σ F H R rs ht=>upA1 rs ht fun es1 p1 vs1 F1 H1 rs1 s1 sh er1 ⟨e1,j,h1,h2,h3,h4,q⟩=>by
  obtain ⟨v,rfl,er⟩:=evs1 er1 h1
  exact ⟨j,by rw [ev_int er h2],h3,h4,_,_,p1,F1,rs1,s1,sh,jq_rng 0 _,q⟩
def iqR2 (ta:TAQ):TIQ:=fun p Q=>ta p fun es p1=>∃e f i j,es=[e,f]/\lk p1 e=.int i/\lk p1 f=.int j/\(-(2 ^ 62)<=i/\i<2 ^ 62/\-(2 ^ 62)<=j/\j<2 ^ 62)/\Q (j - i).toNat (fun k=>.int (i+k)) p1
theorem i_range2 (hg:Gl X "range") (hm:X.mg "range"=none) (ha:PA X [a,b] (UpA C tas)) (hs:starEach [a,b] X.env=[(false,eval a X.env),(false,eval b X.env)]:=by rfl) (hs2:starEach [b] X.env=[(false,eval b X.env)]:=by rfl):PI X tg (.Call (.Name "range" ps) [a,b] [] pos) (UpI C (iqR2 tas)):=
 QI.mk (pi_range2 hg hm ha hs hs2) fun p σ F H R rs ht=>upA1 rs ht fun es1 p1 vs1 F1 H1 rs1 s1 sh er1 ⟨e1,e2,i,j,h0,h1,h2,h3,q⟩=>by
  obtain ⟨v,w,rfl,er,er'⟩:=evs2 er1 h0
  exact ⟨i,j,by rw [ev_int er h1,ev_int er' h2],h3,_,_,p1,F1,rs1,s1,sh,jq_rng i _,q⟩
def iqL (ta:TQ):TIQ:=fun p Q=>ta p fun e p1=>∃ds,e=.fz (.lst ds)/\Q ds.length (fun i=>ds.getD i .non) p1
theorem i_list (hK:X.K=C.K) (ha:PE X a (Up C ta)):PI X tg a (UpI C (iqL ta)):=
 QI.mk (pi_listK hK ha) fun p σ F H R rs ht=>up1 rs ht fun e1 p1 v1 F1 H1 rs1 s1 sh er1 ⟨ds,h1,q⟩=>by
  subst h1
  cases er1 with
  | lst q1 r1=>exact ⟨_,rfl,⟨_,.of (rs1.sub _ _ q1)⟩,_,_,p1,F1,rs1,s1,sh,jq_lst q1 r1,q⟩
def qFor (ti:TIQ) (g:TGQ) (tb:TSQ):TSQ:=fun E p=>ti p fun n item p1=>∃I:Nat->PSt->Prop,I 0 p1/\(∀i p2,i<n->I i p2->g (item i) p2 fun p3=>tb { E with nx:=I (i+1),ct:=I (i+1),bk:=E.nx } p3)/\∀p2,I n p2->E.nx p2
theorem s_for {iter:Expr} {body:List Stmt} {ti:TIQ} {g:TGQ} {tb:TSQ} (hp:PassesOwn (model X.prog X.w) X.A X.env X.xe) (hc:X.calm=true) (hi:PI X tg iter (UpI C ti)) (hg:PG X tg (UpG C g)) (hb:PSs X body (UpS C tb))
  (hs:∀x,foldedSetIterable iter X.env x=pure x:=by intro _;rfl):PS X (.For tg iter body [] pos) (UpS C (qFor ti g tb)):=
 QS.mk (ps_for hp hc hi hg hb hs) fun p σ F H E rs ht=>⟨p,F,_,rs,ht,fun J H1 ⟨n,item,p1,F1,rs1,s1,sh1,jq,I,i0,istep,iend⟩=>by
  refine ⟨fun i m σ H=>m=n - i/\i<=n/\∃p F,RS C p σ F H/\Same F1 F/\I i p,⟨n,by simp,Nat.zero_le _,p1,F1,rs1,.refl _,i0⟩,?_⟩
  rintro i m σ2 H2 ⟨rfl,hi,p2,F2,rs2,s2,i2⟩
  by_cases hlt:i<n
  ·refine .inr ⟨jq.go i F2 H2 rs2.sub s2 hlt,fun σ' H'=>∃p F,RS C p σ' F H'/\Same F1 F/\I (i+1) p,fun σ' H' h=>⟨n - (i+1),by omega,rfl,hlt,h⟩,fun x H' y=>?_⟩
   obtain ⟨F3,rs3,s3,r3⟩:=jq.out rs2 s2 hlt y
   refine ⟨p2,F3,item i,_,rs3,r3,istep i p2 hlt i2,fun σ4 H4 ⟨p4,F4,rs4,s4,q4⟩=>⟨p4,F4,_,rs4,q4,?_⟩⟩
   have s14:Same F1 F4:=s2.trans (s3.trans s4)
   exact ⟨fun _ _ ⟨p5,F5,a,b,c⟩=>⟨p5,F5,a,s14.trans b,c⟩,fun _ _ ⟨r,p5,σ5,F5,a,b,c⟩=>⟨r,p5,σ5,F5,a,s1.trans (s14.trans b),c⟩,fun _ _ ⟨p5,F5,a,b,c⟩=>⟨p5,F5,a,s1.trans (s14.trans b),c⟩,fun _ _ ⟨p5,F5,a,b,c⟩=>⟨p5,F5,a,s14.trans b,c⟩⟩
  ·have e:i=n:=by omega
   subst e
   exact .inl ⟨jq.stop F2 H2 rs2.sub s2,p2,F2,rs2,s1.trans s2,iend p2 i2⟩⟩
def qWhile (c:TTQ) (tb:TSQ):TSQ:=fun E p=>∃(I:PSt->Prop) (μ:PSt->Nat),I p/\∀p1,I p1->c p1 fun b p2=>if b=true then tb { E with nx:=fun q=>I q/\μ q<μ p1,ct:=fun q=>I q/\μ q<μ p1,bk:=E.nx } p2 else E.nx p2
theorem s_while {c:Expr} {body:List Stmt} {tc:TTQ} {tb:TSQ} (hp:PassesOwn (model X.prog X.w) X.A X.env X.xe) (hc:PT X c (UpT C tc)) (hb:PSs X body (UpS C tb)):PS X (.While c body [] pos) (UpS C (qWhile tc tb)):=
 QS.mk (ps_while hp hc hb) fun p σ F H E rs ⟨I,μ,i0,step⟩=>by
  refine ⟨fun m σ1 H1=>∃p1 F1,RS C p1 σ1 F1 H1/\Same F F1/\I p1/\m=μ p1,⟨_,p,F,rs,.refl _,i0,rfl⟩,?_⟩
  rintro m σ1 H1 ⟨p1,F1,rs1,s1,i1,rfl⟩
  refine upT1 rs1 (step p1 i1) fun k p2 F2 H2 rs2 s2 sh q=>?_
  refine ite_imp (fun q=>?_) (fun q=>?_) q
  ·refine ⟨fun σ' H'=>∃p' F',RS C p' σ' F' H'/\Same F F'/\I p'/\μ p'<μ p1,fun σ' H' ⟨p',F',z1,z2,z3,z4⟩=>⟨_,z4,p',F',z1,z2,z3,rfl⟩,p2,F2,_,rs2,q,?_⟩
   have s12:=s1.trans s2
   exact ⟨fun _ _ ⟨p5,F5,a,b,c,d⟩=>⟨p5,F5,a,s12.trans b,c,d⟩,fun _ _ ⟨r,p5,σ5,F5,a,b,c⟩=>⟨r,p5,σ5,F5,a,s12.trans b,c⟩,fun _ _ ⟨p5,F5,a,b,c⟩=>⟨p5,F5,a,s12.trans b,c⟩,fun _ _ ⟨p5,F5,a,b,c,d⟩=>⟨p5,F5,a,s12.trans b,c,d⟩⟩
  ·exact ⟨p2,F2,rs2,s1.trans s2,q⟩
end
abbrev PSp:=List Sl->(Rt->List Sl->Prop)->Prop
def ArgR (K:PySem.W.Frag) (F H:Hp):Sl->V->Prop
 | .d x,v=>Rep K F x v
 | .own _,_=>False
 | .bor xs,v=>∃a vs,v=.ref a/\F a=none/\H a=some (.lst vs)/\RepL K F xs vs
structure ArgsR (K:PySem.W.Frag) (F H:Hp) (as:List Sl) (vs:List V):Prop where
 len:as.length=vs.length
 at_:∀(i:Nat) (s:Sl),as[i]? = some s->∃v,vs[i]? = some v/\ArgR K F H s v
 apart:∀(i j:Nat) (xs ys:List D) (a:Addr),i≠j->as[i]? = some (.bor xs)->as[j]? = some (.bor ys)->vs[i]? = some (.ref a)->vs[j]? = some (.ref a)->False
structure Post (K:PySem.W.Frag) (F H:Hp) (as:List Sl) (vs:List V) (r:Rt) (as':List Sl) (v:V) (F' H':Hp):Prop where
 ext:Same F F'
 sub:Same F' H'
 new:∀a o,F' a=some o->F a=some o\/H a=none\/∃xs,o=.tup xs
 keep:∀a o,H a=some o->(∀(i:Nat) (xs:List D),as[i]? = some (.bor xs)->vs[i]?≠some (.ref a))->H' a=some o
 grow:∀a,H a≠none->H' a≠none
 args:∀(i:Nat) (xs:List D),as[i]? = some (.bor xs)->∃ys a us,as'[i]? = some (.bor ys)/\vs[i]? = some (.ref a)/\F' a=none/\H' a=some (.lst us)/\RepL K F' ys us
 res:match r with
  | .rd x=>Rep K F' x v
  | .ro xs=>∃a us,v=.ref a/\F' a=none/\H a=none/\H' a=some (.lst us)/\RepL K F' xs us
def spOf (K:PySem.W.Frag) (S:PSp):Sp:=fun vs H Q _=>∃as F R,Same F H/\ArgsR K F H as vs/\S as R/\∀r as' v F' H',Post K F H as vs r as' v F' H'->R r as'->Q v H'
def argOf (p:PSt):Ev->Option Sl
 | .fz x=>some (.d x)
 | .ow i=>match mutL p i with
  | some xs=>some (.bor xs)
  | none=>none
def argsOf (p:PSt):List Ev->Option (List Sl)
 | []=>some []
 | e::r=>match argOf p e,argsOf p r with
  | some s,some ss=>some (s::ss)
  | _,_=>none
def owIx:List Ev->List Nat
 | []=>[]
 | .fz _::r=>owIx r
 | .ow i::r=>i::owIx r
def back:PSt->List Ev->List Sl->PSt
 | p,.ow i::es,.bor ys::as=>back (putL p i ys) es as
 | p,_::es,_::as=>back p es as
 | p,_,_=>p
theorem argsOf_get {p:PSt}:∀{es:List Ev} {as:List Sl},argsOf p es=some as->as.length=es.length/\∀(i:Nat) (e:Ev),es[i]? = some e->∃s,as[i]? = some s/\argOf p e=some s
 | [],as,h=>by cases h;exact ⟨rfl,fun i e z=>by simp at z⟩
 | e::r,as,h=>by
  unfold argsOf at h
  cases h1:argOf p e with
  | none=>rw [h1] at h;cases h
  | some s=>
   cases h2:argsOf p r with
   | none=>rw [h1,h2] at h;cases h
   | some ss=>
    rw [h1,h2] at h;cases h
    obtain ⟨l,g⟩:=argsOf_get h2
    refine ⟨by simp [l],fun i e' z=>?_⟩
    cases i with
    | zero=>simp at z;subst z;exact ⟨s,by simp,h1⟩
    | succ i=>exact (by simpa using g i e' (by simpa using z))
theorem putL_get {p:PSt} {i:Nat} {ys:List D} {k:Nat}:(putL p i ys)[k]? = (if k=i then (match p[k]? with|some (some s)=>some (some (s.put ys))|o=>o) else p[k]?):=by
 unfold putL
 by_cases hk:k=i
 ·subst hk
  rw [if_pos rfl]
  cases h:p[k]? with
  | none=>simp [h]
  | some o=>
   cases o with
   | none=>simp [h]
   | some s=>
    have hl:k<p.length:=(List.getElem?_eq_some_iff.mp h).1
    simp only []
    rw [List.getElem?_set_self hl]
 ·rw [if_neg hk]
  split
  ·rw [List.getElem?_set_ne (Ne.symm hk)]
  ·rfl
theorem putL_len {p:PSt} {i:Nat} {ys:List D}:(putL p i ys).length=p.length:=by
 unfold putL
 split
 ·exact List.length_set
 ·rfl
theorem back_len:∀{es:List Ev} {as:List Sl} {p:PSt},(back p es as).length=p.length
 | [],_,_=>by unfold back;rfl
 | .fz x::es,[],p=>by unfold back;rfl
 | .ow i::es,[],p=>by unfold back;rfl
 | .fz x::es,a::as,p=>by unfold back;exact back_len
 | .ow i::es,.bor ys::as,p=>by unfold back;rw [back_len,putL_len]
 | .ow i::es,.d y::as,p=>by unfold back;exact back_len
 | .ow i::es,.own y::as,p=>by unfold back;exact back_len
theorem mem_owIx:∀{es:List Ev} {k:Nat} {m:Nat},es[m]? = some (.ow k)->k∈owIx es
 | [],k,m,h=>by simp at h
 | .fz x::r,k,m,h=>by
  unfold owIx
  cases m with
  | zero=>simp at h
  | succ m=>exact mem_owIx (m:=m) (by simpa using h)
 | .ow i::r,k,m,h=>by
  unfold owIx
  cases m with
  | zero=>simp at h;subst h;exact List.mem_cons_self
  | succ m=>exact List.mem_cons_of_mem _ (mem_owIx (m:=m) (by simpa using h))
theorem back_get:∀{es:List Ev} {as:List Sl} {p:PSt} {k:Nat},(owIx es).Nodup->
  (∃(m:Nat) (ys:List D) (s:Sl),es[m]? = some (.ow k)/\as[m]? = some (.bor ys)/\p[k]? = some (some s)/\(back p es as)[k]? = some (some (s.put ys))) \/
  ((∀(m:Nat) (ys:List D) (s:Sl),es[m]? = some (.ow k)->as[m]? = some (.bor ys)->p[k]? = some (some s)->False)/\(back p es as)[k]? = p[k]?)
 | [],as,p,k,_=>.inr ⟨fun m ys s h=>by simp at h,by unfold back;rfl⟩
 | .fz x::es,[],p,k,_=>.inr ⟨fun m ys s _ h=>by simp at h,by unfold back;rfl⟩
 | .ow i::es,[],p,k,_=>.inr ⟨fun m ys s _ h=>by simp at h,by unfold back;rfl⟩
 | .fz x::es,a::as,p,k,nd=>by
  have e:back p (.fz x::es) (a::as)=back p es as:=by conv=>lhs;unfold back
  rw [e]
  rcases back_get (es:=es) (as:=as) (p:=p) (k:=k) nd with ⟨m,ys,s,h1,h2,h3,h4⟩|⟨h1,h2⟩
  ·exact .inl ⟨m+1,ys,s,by simpa using h1,by simpa using h2,h3,h4⟩
  ·refine .inr ⟨fun m ys s g1 g2 g3=>?_,h2⟩
   cases m with
   | zero=>simp at g1
   | succ m=>exact h1 m ys s (by simpa using g1) (by simpa using g2) g3
 | .ow i::es,.d y::as,p,k,nd=>by
  have e:back p (.ow i::es) (.d y::as)=back p es as:=by conv=>lhs;unfold back
  rw [e]
  have nd':(owIx es).Nodup:=by unfold owIx at nd;exact (List.nodup_cons.mp nd).2
  rcases back_get (es:=es) (as:=as) (p:=p) (k:=k) nd' with ⟨m,ys,s,h1,h2,h3,h4⟩|⟨h1,h2⟩
  ·exact .inl ⟨m+1,ys,s,by simpa using h1,by simpa using h2,h3,h4⟩
  ·refine .inr ⟨fun m ys s g1 g2 g3=>?_,h2⟩
   cases m with
   | zero=>simp at g2
   | succ m=>exact h1 m ys s (by simpa using g1) (by simpa using g2) g3
 | .ow i::es,.own y::as,p,k,nd=>by
  have e:back p (.ow i::es) (.own y::as)=back p es as:=by conv=>lhs;unfold back
  rw [e]
  have nd':(owIx es).Nodup:=by unfold owIx at nd;exact (List.nodup_cons.mp nd).2
  rcases back_get (es:=es) (as:=as) (p:=p) (k:=k) nd' with ⟨m,ys,s,h1,h2,h3,h4⟩|⟨h1,h2⟩
  ·exact .inl ⟨m+1,ys,s,by simpa using h1,by simpa using h2,h3,h4⟩
  ·refine .inr ⟨fun m ys s g1 g2 g3=>?_,h2⟩
   cases m with
   | zero=>simp at g2
   | succ m=>exact h1 m ys s (by simpa using g1) (by simpa using g2) g3
 | .ow i::es,.bor zs::as,p,k,nd=>by
  have e:back p (.ow i::es) (.bor zs::as)=back (putL p i zs) es as:=by conv=>lhs;unfold back
  rw [e]
  have nd0:i ∉ owIx es/\(owIx es).Nodup:=by unfold owIx at nd;exact List.nodup_cons.mp nd
  by_cases hk:k=i
  ·subst hk
   rcases back_get (es:=es) (as:=as) (p:=putL p k zs) (k:=k) nd0.2 with ⟨m,ys,s,h1,_⟩|⟨h1,h2⟩
   ·exact absurd (mem_owIx h1) nd0.1
   ·rw [h2,putL_get,if_pos rfl]
    cases h:p[k]? with
    | none=>exact .inr ⟨fun m ys s _ _ g=>(by cases g),rfl⟩
    | some o=>
     cases o with
     | none=>exact .inr ⟨fun m ys s _ _ g=>(by cases g),rfl⟩
     | some s=>exact .inl ⟨0,zs,s,by simp,by simp,rfl,rfl⟩
  ·have ep:(putL p i zs)[k]? = p[k]?:=by rw [putL_get,if_neg hk]
   rcases back_get (es:=es) (as:=as) (p:=putL p i zs) (k:=k) nd0.2 with ⟨m,ys,s,h1,h2,h3,h4⟩|⟨h1,h2⟩
   ·exact .inl ⟨m+1,ys,s,by simpa using h1,by simpa using h2,by rw [<-ep];exact h3,h4⟩
   ·refine .inr ⟨fun m ys s g1 g2 g3=>?_,by rw [h2,ep]⟩
    cases m with
    | zero=>simp at g1;exact hk g1.symm
    | succ m=>exact h1 m ys s (by simpa using g1) (by simpa using g2) (by rw [ep];exact g3)
theorem evs_get {K:PySem.W.Frag} {p:PSt} {σ:St} {F:Hp}:∀{es:List Ev} {vs:List V},EvRs K p σ F es vs->es.length=vs.length/\∀(i:Nat) (e:Ev),es[i]? = some e->∃v,vs[i]? = some v/\EvR K p σ F e v
 | _,_,.nil=>⟨rfl,fun i e z=>by simp at z⟩
 | _,_,.cons h t=>by
  obtain ⟨l,g⟩:=evs_get t
  refine ⟨by simp [l],fun i e' z=>?_⟩
  cases i with
  | zero=>simp at z;subst z;exact ⟨_,by simp,h⟩
  | succ i=>exact (by simpa using g i e' (by simpa using z))
section
variable {X:Cx} {C:Pc} {a b c e:Expr} {ta tb tc:TQ} {pos:Pos} {K:PySem.W.Frag} {p:PSt} {σ:St} {F H:Hp} {st:Stmt} {es:List Expr} {tas:TAQ}
theorem args_ok {es:List Ev} {vs:List V} {as:List Sl} (rs:RS C p σ F H) (er:EvRs C.K p σ F es vs) (ha:argsOf p es=some as) (nd:(owIx es).Nodup):ArgsR C.K F H as vs /\
  ∀(m:Nat) (xs:List D),as[m]? = some (.bor xs)->∃(k:Nat) (s:Sl) (a:Addr),es[m]? = some (.ow k)/\p[k]? = some (some s)/\s.mu=true/\σ[k]? = some (some (.ref a))/\vs[m]? = some (.ref a):=by
 obtain ⟨l1,g1⟩:=argsOf_get ha
 obtain ⟨l2,g2⟩:=evs_get er
 have low:∀(m:Nat) (xs:List D),as[m]? = some (.bor xs)->∃(k:Nat) (s:Sl) (a:Addr) (vs':List V),es[m]? = some (.ow k)/\p[k]? = some (some s)/\s.mu=true/\σ[k]? = some (some (.ref a))/\vs[m]? = some (.ref a)/\F a=none/\H a=some (.lst vs')/\RepL C.K F xs vs':=fun m xs h=>by
  have hm:m<es.length:=by rw [<-l1];exact (List.getElem?_eq_some_iff.mp h).1
  obtain ⟨s0,e1,e2⟩:=g1 m _ (List.getElem?_eq_getElem hm)
  rw [h] at e1;cases e1
  cases he:es[m] with
  | fz x=>rw [he] at e2;cases e2
  | ow k=>
   rw [he] at e2
   have hmut:mutL p k=some xs:=by
    unfold argOf at e2
    cases hq:mutL p k with
    | none=>simp [hq] at e2
    | some ys=>simp [hq] at e2;rw [e2]
   obtain ⟨s,a,vs',h1,h2,h3,h4,h5,h6⟩:=mut_at rs hmut
   obtain ⟨v,e3,er3⟩:=g2 m _ (List.getElem?_eq_getElem hm)
   rw [he] at er3
   have:=er3.2
   rw [h3] at this;cases this
   have fa:F a=none:=by
    obtain ⟨w,z1,z2⟩:=rs.sl k s h1
    rw [h3] at z1;cases z1
    cases s with
    | d x=>cases h2
    | own xs=>obtain ⟨_,_,z,y,_⟩:=z2;cases z;exact y
    | bor xs=>obtain ⟨_,_,z,y,_⟩:=z2;cases z;exact y
   exact ⟨k,s,a,vs',by rw [List.getElem?_eq_getElem hm,he],h1,h2,h3,e3,fa,h4,h5⟩
 refine ⟨⟨by rw [l1,l2],fun i s h=>?_,fun i j xs ys x hij h1 h2 h3 h4=>?_⟩,fun m xs h=>?_⟩
 ·have hm:i<es.length:=by rw [<-l1];exact (List.getElem?_eq_some_iff.mp h).1
  obtain ⟨s0,e1,e2⟩:=g1 i _ (List.getElem?_eq_getElem hm)
  rw [h] at e1;cases e1
  obtain ⟨v,e3,er3⟩:=g2 i _ (List.getElem?_eq_getElem hm)
  cases s with
  | d x=>
   refine ⟨v,e3,?_⟩
   cases he:es[i] with
   | fz y=>rw [he] at e2;rw [he] at er3;cases e2;exact er3
   | ow k=>
    rw [he] at e2
    unfold argOf at e2
    cases hq:mutL p k with
    | none=>simp [hq] at e2
    | some ys=>simp [hq] at e2
  | own xs=>
   cases he:es[i] with
   | fz y=>simp [he,argOf] at e2
   | ow k=>
    rw [he] at e2
    unfold argOf at e2
    cases hq:mutL p k with
    | none=>simp [hq] at e2
    | some ys=>simp [hq] at e2
  | bor xs=>
   obtain ⟨k,s,x,vs',z1,z2,z3,z4,z5,z6,z7,z8⟩:=low i xs h
   exact ⟨_,z5,x,vs',rfl,z6,z7,z8⟩
 ·obtain ⟨k,s,x1,vs',z1,z2,z3,z4,z5,z6,z7,z8⟩:=low i xs h1
  obtain ⟨k',s',x2,vs'',y1,y2,y3,y4,y5,y6,y7,y8⟩:=low j ys h2
  rw [h3] at z5;cases z5
  rw [h4] at y5;cases y5
  by_cases hk:k=k'
  ·subst hk
   -- the same slot twice
   have nodup_two:∀{l:List Ev} {i j k:Nat},(owIx l).Nodup->l[i]? = some (.ow k)->l[j]? = some (.ow k)->i=j:=by
    intro l
    induction l with
    | nil=>intro i j k _ h;simp at h
    | cons e r ih=>
     intro i j k nd h h'
     cases e with
     | fz x=>
      cases i with
      | zero=>simp at h
      | succ i=>
       cases j with
       | zero=>simp at h'
       | succ j=>exact congrArg _ (ih (i:=i) (j:=j) (k:=k) (by unfold owIx at nd;exact nd) (by simpa using h) (by simpa using h'))
     | ow q=>
      unfold owIx at nd
      obtain ⟨n1,n2⟩:=List.nodup_cons.mp nd
      cases i with
      | zero=>
       simp at h;subst h
       cases j with
       | zero=>rfl
       | succ j=>exact absurd (mem_owIx (m:=j) (by simpa using h')) n1
      | succ i=>
       cases j with
       | zero=>simp at h';subst h';exact absurd (mem_owIx (m:=i) (by simpa using h)) n1
       | succ j=>exact congrArg _ (ih (i:=i) (j:=j) (k:=k) n2 (by simpa using h) (by simpa using h'))
   exact hij (nodup_two nd z1 y1)
  ·exact rs.apart k k' s s' x hk z2 z3 y2 y3 z4 y4
 ·obtain ⟨k,s,x,vs',z1,z2,z3,z4,z5,z6,z7,z8⟩:=low m xs h
  exact ⟨k,s,x,z1,z2,z3,z4,z5⟩
theorem RS.call {es:List Ev} {vs:List V} {as as':List Sl} {r:Rt} {v:V} {F' H':Hp} (rs:RS C p σ F H) (er:EvRs C.K p σ F es vs) (ha:argsOf p es=some as) (nd:(owIx es).Nodup) (po:Post C.K F H as vs r as' v F' H') :
  RS C (back p es as') σ F' H'/\Shp p (back p es as')/\RtR C (back p es as') σ F' H' r v:=by
 obtain ⟨ar,lent⟩:=args_ok rs er ha nd
 obtain ⟨l1,g1⟩:=argsOf_get ha
 obtain ⟨l2,g2⟩:=evs_get er
 -- an address of ours that is lent is the slot's
 have kept:∀(k:Nat) (s:Sl) (x:Addr) (o:HO),p[k]? = some (some s)->s.mu=true->σ[k]? = some (some (.ref x))->H x=some o->(∀m:Nat,es[m]?≠some (.ow k))->H' x=some o:=fun k s x o h1 h2 h3 h4 h5=>by
  refine po.keep x o h4 fun i xs z1 z2=>?_
  obtain ⟨k',s',x',y1,y2,y3,y4,y5⟩:=lent i xs z1
  rw [z2] at y5;cases y5
  by_cases hk:k=k'
  ·subst hk;exact h5 i y1
  ·exact rs.apart k k' s s' x hk h1 h2 y2 y3 h3 y4
 have stillF:∀x us,F x=none->H x≠none->H' x=some (.lst us)->F' x=none:=fun x us h1 h2 h3=>by
  cases q:F' x with
  | none=>rfl
  | some o=>
   rcases po.new x o q with z|z|⟨ys,z⟩
   ·rw [h1] at z;cases z
   ·exact absurd z h2
   ·subst z
    have:=po.sub x _ q
    rw [h3] at this;cases this
 have slot:∀(k:Nat) (s:Sl),(back p es as')[k]? = some (some s)->∃s0,p[k]? = some (some s0)/\s.mu=s0.mu/\(∀xs,s0=.own xs->∃ys,s=.own ys)/\(∀xs,s0=.bor xs->∃ys,s=.bor ys)/\(s0.mu=false->s=s0) /\
   (s.mu=true->∃x us ys,σ[k]? = some (some (.ref x))/\F' x=none/\H' x=some (.lst us)/\RepL C.K F' ys us/\(s=.own ys\/s=.bor ys)):=fun k s h=>by
  rcases back_get (es:=es) (as:=as') (p:=p) (k:=k) nd with ⟨m,ys,s0,h1,h2,h3,h4⟩|⟨h1,h2⟩
  ·rw [h4] at h;cases h
   obtain ⟨s1,q1,q2⟩:=g1 m _ h1
   have q3:∃xs,s1=.bor xs:=by
    unfold argOf at q2
    cases hq:mutL p k with
    | none=>simp [hq] at q2
    | some zs=>simp [hq] at q2;exact ⟨zs,q2.symm⟩
   obtain ⟨xs,rfl⟩:=q3
   obtain ⟨ys',x,us,a1,a2,a3,a4,a5⟩:=po.args m xs q1
   rw [h2] at a1;cases a1
   obtain ⟨k',s',x',y1,y2,y3,y4,y5⟩:=lent m xs q1
   rw [h1] at y1;cases y1
   rw [h3] at y2;cases y2
   rw [a2] at y5;cases y5
   refine ⟨s0,h3,?_,fun xs z=>⟨ys,by subst z;rfl⟩,fun xs z=>⟨ys,by subst z;rfl⟩,fun z=>?_,fun _=>⟨x,us,ys,y4,a3,a4,a5,?_⟩⟩
   ·cases s0<;>rfl
   ·rw [y3] at z;cases z
   ·cases s0 with
    | d x=>cases y3
    | own xs=>exact .inl rfl
    | bor xs=>exact .inr rfl
  ·rw [h2] at h
   refine ⟨s,h,rfl,fun xs z=>⟨xs,z⟩,fun xs z=>⟨xs,z⟩,fun _=>rfl,fun hm=>?_⟩
   obtain ⟨w,z1,z2⟩:=rs.sl k s h
   have nl:∀m:Nat,es[m]?≠some (.ow k):=fun m hm'=>by
    obtain ⟨s1,q1,q2⟩:=g1 m _ hm'
    have q3:∃xs,s1=.bor xs:=by
     unfold argOf at q2
     cases hq:mutL p k with
     | none=>simp [hq] at q2
     | some zs=>simp [hq] at q2;exact ⟨zs,q2.symm⟩
    obtain ⟨xs,rfl⟩:=q3
    obtain ⟨ys',x,us,a1,a2,a3,a4,a5⟩:=po.args m xs q1
    exact h1 m ys' s hm' a1 h
   cases s with
   | d x=>cases hm
   | own xs=>
    obtain ⟨x,us,rfl,y1,y2,y3,y4⟩:=z2
    have hH:=kept k _ x _ h rfl z1 y3 nl
    exact ⟨x,us,xs,z1,stillF x us y1 (by rw [y3];intro z;cases z) hH,hH,y4.mono po.ext,.inl rfl⟩
   | bor xs=>
    obtain ⟨x,us,rfl,y1,y2,y3,y4⟩:=z2
    have hH:=kept k _ x _ h rfl z1 y3 nl
    exact ⟨x,us,xs,z1,stillF x us y1 (by rw [y3];intro z;cases z) hH,hH,y4.mono po.ext,.inr rfl⟩
 have rs':RS C (back p es as') σ F' H':=by
  refine ⟨po.sub,rs.ext.trans po.ext,fun x o q=>?_,fun x o q n=>?_,fun x n=>po.grow x (rs.grow x n),by rw [back_len];exact rs.len,fun k s h=>?_,fun i j s s' x hij e1 m1 e2 m2 x1 x2=>?_,fun q hq=>?_⟩
  ·rcases po.new x o q with z|z|z
   ·exact rs.new x o z
   ·exact .inr (.inl (rs.free z).2.1)
   ·exact .inr (.inr z)
  ·refine po.keep x o (rs.keep x o q n) fun i xs z1 z2=>?_
   obtain ⟨k',s',x',y1,y2,y3,y4,y5⟩:=lent i xs z1
   rw [z2] at y5;cases y5
   obtain ⟨w,w1,w2⟩:=rs.sl k' s' y2
   rw [y4] at w1;cases w1
   cases s' with
   | d x=>cases y3
   | own xs=>obtain ⟨_,_,z,_,y,_⟩:=w2;cases z;rw [y] at q;cases q
   | bor xs=>obtain ⟨_,_,z,_,⟨q',hq',y⟩,_⟩:=w2;cases z;exact n q' hq' y
  ·obtain ⟨s0,h0,hm,ho,hb,hd,hl⟩:=slot k s h
   obtain ⟨w,w1,w2⟩:=rs.sl k s0 h0
   refine ⟨w,w1,?_⟩
   cases s0 with
   | d x=>rw [hd rfl];exact Rep.mono po.ext w2
   | own xs=>
    obtain ⟨ys,rfl⟩:=ho xs rfl
    obtain ⟨x,us,ys',z1,z2,z3,z4,z5⟩:=hl rfl
    rw [w1] at z1;cases z1
    obtain ⟨_,_,z,_,y,_⟩:=w2;cases z
    rcases z5 with z5|z5<;>cases z5
    exact ⟨x,us,rfl,z2,y,z3,z4⟩
   | bor xs=>
    obtain ⟨ys,rfl⟩:=hb xs rfl
    obtain ⟨x,us,ys',z1,z2,z3,z4,z5⟩:=hl rfl
    rw [w1] at z1;cases z1
    obtain ⟨_,_,z,_,y,_⟩:=w2;cases z
    rcases z5 with z5|z5<;>cases z5
    exact ⟨x,us,rfl,z2,y,z3,z4⟩
  ·obtain ⟨s1,h1,hm1,_⟩:=slot i s e1
   obtain ⟨s2,h2,hm2,_⟩:=slot j s' e2
   exact rs.apart i j s1 s2 x hij h1 (by rw [<-hm1];exact m1) h2 (by rw [<-hm2];exact m2) x1 x2
  ·obtain ⟨z1,xs,z2⟩:=rs.pin q hq
   refine ⟨z1,?_⟩
   rcases back_get (es:=es) (as:=as') (p:=p) (k:=q.1) nd with ⟨m,ys,s0,h1,h2,h3,h4⟩|⟨h1,h2⟩
   ·rw [z2] at h3;cases h3
    exact ⟨ys,h4⟩
   ·exact ⟨xs,by rw [h2];exact z2⟩
 refine ⟨rs',⟨back_len,fun k s h m=>?_⟩,?_⟩
 ·rcases back_get (es:=es) (as:=as') (p:=p) (k:=k) nd with ⟨m',ys,s0,h1,h2,h3,h4⟩|⟨h1,h2⟩
  ·rw [h] at h3;cases h3
   exact ⟨_,h4,by cases s<;>first|rfl|cases m⟩
  ·exact ⟨s,by rw [h2];exact h,m⟩
 ·have res:=po.res
  cases r with
  | rd x=>exact res
  | ro xs=>
   obtain ⟨x,us,z1,z2,z3,z4,z5⟩:=res
   refine ⟨x,us,z1,z2,(rs.free z3).2.1,z4,z5,fun k s h m z=>?_⟩
   obtain ⟨s0,h0,hm,_⟩:=slot k s h
   exact (rs.free z3).2.2 k s0 h0 (by rw [<-hm];exact m) z
def nCall (S:PSp) (t:TAQ):TN:=fun p Q=>t p fun es p1=>∃as,argsOf p1 es=some as/\(owIx es).Nodup/\S as fun r as'=>Q r (back p1 es as')
theorem n_call {x:Str} {st:Stmt} {ps:List Str} {k:Nat} {S:PSp} {p0:Pos} (hK:X.K=C.K) (D:DefAt X.K X.mg x st ps) (G:FnOk X.prog X.w X.K X.mg X.base CX0 k D.f D.fd ps (spOf X.K S)) (hr:Room k X.A) (ha:PA X (e::es) (UpA C tas))
  (hg:Gl X x:=by rfl) (hdb:(x == ("__debug__":Str))=false:=by decide) (he:starEach (e::es) X.env=(false,eval e X.env)::starEach es X.env:=by rfl) (hpl:(backTo pos (starEach es X.env)).any (·.1)=false:=by rfl) :
  PE X (.Call (.Name x p0) (e::es) [] pos) (UpN C (nCall S tas)):=
 QN.mk (pe_callD D G hr ha hg hdb he hpl) fun p σ F H R rs ht=>upA1 rs ht fun es1 p1 vs1 F1 H1 rs1 s1 sh er1 ⟨as,h1,nd,q⟩=>by
  rw [List.append_nil,hK]
  refine ⟨as,F1,_,rs1.sub,(args_ok rs1 er1 h1 nd).1,q,fun r as' v F' H' po hq=>?_⟩
  obtain ⟨rs2,sh2,rr⟩:=rs1.call er1 h1 nd po
  exact ⟨r,_,F',rs2,s1.trans po.ext,sh.trans sh2,rr,hq⟩
def outs:List Sl->PSt->List Sl
 | [],_=>[]
 | .bor _::r,some s::p=>s::outs r p
 | s::r,_::p=>s::outs r p
 | s::r,[]=>s::r
theorem outs_get:∀{as:List Sl} {p:PSt} {i:Nat} {xs:List D} {s:Sl},as[i]? = some (.bor xs)->p[i]? = some (some s)->(outs as p)[i]? = some s
 | [],p,i,xs,s,h,_=>by simp at h
 | a::as,[],i,xs,s,_,h=>by simp at h
 | .bor ys::as,o::p,0,xs,s,h,h'=>by
  simp at h';subst h';unfold outs;simp
 | .d y::as,o::p,0,xs,s,h,h'=>by simp at h
 | .own y::as,o::p,0,xs,s,h,h'=>by simp at h
 | .bor ys::as,none::p,i+1,xs,s,h,h'=>by
  unfold outs;simpa using outs_get (as:=as) (p:=p) (i:=i) (xs:=xs) (s:=s) (by simpa using h) (by simpa using h')
 | .bor ys::as,some q::p,i+1,xs,s,h,h'=>by
  unfold outs;simpa using outs_get (as:=as) (p:=p) (i:=i) (xs:=xs) (s:=s) (by simpa using h) (by simpa using h')
 | .d ys::as,o::p,i+1,xs,s,h,h'=>by
  unfold outs;simpa using outs_get (as:=as) (p:=p) (i:=i) (xs:=xs) (s:=s) (by simpa using h) (by simpa using h')
 | .own ys::as,o::p,i+1,xs,s,h,h'=>by
  unfold outs;simpa using outs_get (as:=as) (p:=p) (i:=i) (xs:=xs) (s:=s) (by simpa using h) (by simpa using h')
def lentBs:Nat->List Sl->List V->List (Nat × Addr)
 | n,.bor _::as,.ref a::vs=>(n,a)::lentBs (n+1) as vs
 | n,_::as,_::vs=>lentBs (n+1) as vs
 | _,_,_=>[]
theorem lentBs_mem:∀{as:List Sl} {vs:List V} {n:Nat} {q:Nat × Addr},q∈lentBs n as vs->∃(m:Nat) (xs:List D),q.1=n+m/\as[m]? = some (.bor xs)/\vs[m]? = some (.ref q.2)
 | [],vs,n,q,h=>by unfold lentBs at h;simp at h
 | a::as,[],n,q,h=>by cases a<;>(unfold lentBs at h;simp at h)
 | a::as,v::vs,n,q,h=>by
  have step:q∈lentBs (n+1) as vs->∃(m:Nat) (xs:List D),q.1=n+m/\(a::as)[m]? = some (.bor xs)/\(v::vs)[m]? = some (.ref q.2):=fun h=>by
   obtain ⟨m,xs,h1,h2,h3⟩:=lentBs_mem h
   exact ⟨m+1,xs,by omega,by simpa using h2,by simpa using h3⟩
  cases a with
  | bor ys=>
   cases v with
   | ref x=>
    unfold lentBs at h
    rcases List.mem_cons.mp h with h|h
    ·subst h;exact ⟨0,ys,by simp,by simp,by simp⟩
    ·exact step h
   | _=>exact step (by unfold lentBs at h;exact h)
  | d y=>exact step (by unfold lentBs at h;exact h)
  | own y=>exact step (by unfold lentBs at h;exact h)
theorem mem_lentBs:∀{as:List Sl} {vs:List V} {n m:Nat} {xs:List D} {x:Addr},as[m]? = some (.bor xs)->vs[m]? = some (.ref x)->(n+m,x)∈lentBs n as vs
 | [],vs,n,m,xs,x,h,_=>by simp at h
 | a::as,[],n,m,xs,x,_,h=>by simp at h
 | a::as,v::vs,n,0,xs,x,h,h'=>by
  simp at h h';subst h h';unfold lentBs;simp
 | a::as,v::vs,n,m+1,xs,x,h,h'=>by
  have ih:=mem_lentBs (as:=as) (vs:=vs) (n:=n+1) (m:=m) (xs:=xs) (x:=x) (by simpa using h) (by simpa using h')
  have e:n+(m+1)=n+1+m:=by omega
  rw [e]
  cases a with
  | bor ys=>
   cases v with
   | ref y=>unfold lentBs;exact List.mem_cons_of_mem _ ih
   | _=>unfold lentBs;exact ih
  | d y=>unfold lentBs;exact ih
  | own y=>unfold lentBs;exact ih
def startP (N:List Str) (as:List Sl):PSt:=as.map some++List.replicate (N.length - as.length) none
end
section
variable {P:Program} {w:World} {K:PySem.W.Frag} {mg:Str->Option Value} {base:Heap}
theorem Fun.okP {x qual:Str} {st:Stmt} {f:Addr} {fd:FuncData} {N ps:List Str} {k:Nat} {S:PSp} (Fn:Fun K x qual st f fd) (Sc:FnScope N ps (defScope st)) (len:∀as R,S as R->as.length=ps.length)
  (hbody:∀(cdv:Value) (A:Around) (outer:List Env) (s:Shared) (H:Hp) (E:XK) (C:Pc) (as:List Sl) (R:Rt->List Sl->Prop),K=C.K->Room k (A.deeper (envOfC qual (defScope st) s.heap.objs.size f cdv))->S as R->
   ∃t,PSs (cxOf CX0 P w K mg base N qual (defScope st) f cdv A outer s H E).nox (defBody st) (UpS C t)/\t { nx:=fun p=>R (.rd .non) (outs as p),rt:=fun r p=>R r (outs as p) } (startP N as)):FnOk P w K mg base CX0 (k+1) f fd ps (spOf K S):=by
 refine Fn.ok Sc (fun vs H Q E h=>?_) (fun cdv A outer s H vs Q E hr h=>?_)
 ·obtain ⟨as,F,R,h1,h2,h3,h4⟩:=h
  rw [<-h2.len];exact len as R h3
 obtain ⟨as,F,R,sFH,ar,hS,hq⟩:=h
 have hb:=hbody cdv A outer s H E ⟨K,F,H,lentBs 0 as vs⟩ as R rfl hr hS
 obtain ⟨t,ht,tq⟩:=hb
 have bsm:∀q∈lentBs 0 as vs,∃xs,as[q.1]? = some (.bor xs)/\vs[q.1]? = some (.ref q.2):=fun q hq=>by
  obtain ⟨m,xs,h1,h2,h3⟩:=lentBs_mem hq
  rw [Nat.zero_add] at h1
  rw [h1]
  exact ⟨xs,h2,h3⟩
 have getP:∀(i:Nat) (s:Sl),(startP N as)[i]? = some (some s)->as[i]? = some s:=fun i s h=>by
  unfold startP at h
  by_cases hi:i<as.length
  ·rw [List.getElem?_append_left (by simpa using hi)] at h
   simpa using h
  ·rw [List.getElem?_append_right (by simpa using Nat.le_of_not_lt hi),List.getElem?_replicate] at h
   split at h<;>cases h
 have getV:∀(i:Nat) (v:V),vs[i]? = some v->(start N vs)[i]? = some (some v):=fun i v h=>by
  unfold start
  have hi:=(List.getElem?_eq_some_iff.mp h).1
  rw [List.getElem?_append_left (by simpa using hi)]
  simpa using h
 have rs:RS ⟨K,F,H,lentBs 0 as vs⟩ (startP N as) (start N vs) F H:=by
  refine ⟨sFH,.refl _,fun a o h=>.inl h,fun a o h _=>h,fun a h=>h,?_,fun i s h=>?_,fun i j s s' a hij e1 m1 e2 m2 x1 x2=>?_,fun q hq=>?_⟩
  ·unfold startP start
   rw [List.length_append,List.length_append,List.length_map,List.length_map,List.length_replicate,List.length_replicate,ar.len]
  ·obtain ⟨v,h1,h2⟩:=ar.at_ i s (getP i s h)
   refine ⟨v,getV i v h1,?_⟩
   cases s with
   | d x=>exact h2
   | own xs=>exact h2.elim
   | bor xs=>
    obtain ⟨a,us,rfl,z1,z2,z3⟩:=h2
    have mm:=mem_lentBs (n:=0) (getP i _ h) h1
    exact ⟨a,us,rfl,z1,⟨_,mm,rfl⟩,z2,z3⟩
  ·have f1:=getP i s e1
   have f2:=getP j s' e2
   obtain ⟨v1,h1,k1⟩:=ar.at_ i s f1
   obtain ⟨v2,h2,k2⟩:=ar.at_ j s' f2
   rw [getV i v1 h1] at x1;cases x1
   rw [getV j v2 h2] at x2;cases x2
   cases s with
   | d x=>cases m1
   | own xs=>exact k1.elim
   | bor xs=>
    cases s' with
    | d x=>cases m2
    | own xs=>exact k2.elim
    | bor ys=>exact ar.apart i j xs ys a hij f1 f2 h1 h2
  ·obtain ⟨xs,h1,h2⟩:=bsm q hq
   refine ⟨getV _ _ h2,xs,?_⟩
   unfold startP
   have hi:=(List.getElem?_eq_some_iff.mp h1).1
   rw [List.getElem?_append_left (by simpa using hi)]
   simpa using h1
 -- the end
 have fin:∀(r:Rt) (p1:PSt) (σ1:St) (v:V) (F1 H1:Hp),RS ⟨K,F,H,lentBs 0 as vs⟩ p1 σ1 F1 H1->RtR ⟨K,F,H,lentBs 0 as vs⟩ p1 σ1 F1 H1 r v->R r (outs as p1)->Q v H1:=fun r p1 σ1 v F1 H1 rs1 rr q=>by
  refine hq r _ v F1 H1 ⟨rs1.ext,rs1.sub,rs1.new,fun a o h n=>?_,rs1.grow,fun i xs h=>?_,?_⟩ q
  ·refine rs1.keep a o h fun q hq z=>?_
   obtain ⟨xs,h1,h2⟩:=bsm q hq
   exact n q.1 xs h1 (by rw [h2,z])
  ·obtain ⟨v,h1,k1⟩:=ar.at_ i _ h
   obtain ⟨a,us,rfl,z1,z2,z3⟩:=k1
   have mm:=mem_lentBs (n:=0) h h1
   obtain ⟨p1',ys,p2'⟩:=rs1.pin _ mm
   rw [Nat.zero_add] at p1' p2'
   obtain ⟨w,w1,b,us',e,y1,y2,y3,y4⟩:=rs1.sl i _ p2'
   rw [p1'] at w1;cases w1;cases e
   exact ⟨ys,a,us',outs_get h p2',h1,y1,y3,y4⟩
  ·cases r with
   | rd x=>exact rr
   | ro xs=>obtain ⟨a,us,z1,z2,z3,z4,z5,_⟩:=rr;exact ⟨a,us,z1,z2,z3,z4,z5⟩
 refine ⟨_,ht,startP N as,F,_,rs,tq,⟨fun σ1 H1 ⟨p1,F1,rs1,s1,q⟩=>?_,fun v H1 ⟨r,p1,σ1,F1,rs1,s1,rr,q⟩=>?_,fun _ _ ⟨_,_,_,_,z⟩=>z.elim,fun _ _ ⟨_,_,_,_,z⟩=>z.elim⟩⟩
 ·exact fin (.rd .non) p1 σ1 .non F1 H1 rs1 .non q
 ·exact fin r p1 σ1 v F1 H1 rs1 rr q
end
def Pc.sh (C:Pc) (k:Nat):Pc:=⟨C.K,C.F0,C.H0,C.bs.map fun q=>(q.1+k,q.2)⟩
section
variable {X:Cx} {C:Pc} {a b c e:Expr} {ta tb tc:TQ} {pos:Pos} {K:PySem.W.Frag} {p:PSt} {σ:St} {F H:Hp} {k:Nat}
theorem rep_get {α:Type} {l:List (Option α)} {i:Nat} {s:α} (h:(List.replicate k none++l)[i]? = some (some s)):∃j,i=k+j/\l[j]? = some (some s):=by
 by_cases hi:i<k
 ·rw [List.getElem?_append_left (by simpa using hi),List.getElem?_replicate,if_pos hi] at h
  cases h
 ·rw [List.getElem?_append_right (by simpa using Nat.le_of_not_lt hi),List.length_replicate] at h
  exact ⟨i - k,by omega,h⟩
theorem rep_at {α:Type} {l:List (Option α)} {j:Nat}:(List.replicate k (none:Option α)++l)[k+j]? = l[j]?:=by
 rw [List.getElem?_append_right (by simp),List.length_replicate,Nat.add_sub_cancel_left]
theorem sl_sh {s:Sl} {v:V}:SlRel (C.sh k) F H s v ↔ SlRel C F H s v:=by
 cases s with
 | d x=>exact Iff.rfl
 | own xs=>exact Iff.rfl
 | bor xs=>
  constructor
  ·rintro ⟨x,vs,h1,h2,⟨q,hq,h3⟩,h4⟩
   obtain ⟨q',hq',e⟩:=List.mem_map.mp hq
   exact ⟨x,vs,h1,h2,⟨q',hq',by rw [<-h3,<-e]⟩,h4⟩
  ·rintro ⟨x,vs,h1,h2,⟨q,hq,h3⟩,h4⟩
   exact ⟨x,vs,h1,h2,⟨(q.1+k,q.2),List.mem_map.mpr ⟨q,hq,rfl⟩,h3⟩,h4⟩
theorem RS.shift (rs:RS C p σ F H):RS (C.sh k) (List.replicate k none++p) (List.replicate k none++σ) F H:=by
 refine ⟨rs.sub,rs.ext,rs.new,fun x o h n=>rs.keep x o h fun q hq=>n (q.1+k,q.2) (List.mem_map.mpr ⟨q,hq,rfl⟩),rs.grow,by rw [List.length_append,List.length_append,List.length_replicate,List.length_replicate,rs.len],fun i s h=>?_,fun i j s s' x hij e1 m1 e2 m2 x1 x2=>?_,fun q hq=>?_⟩
 ·obtain ⟨j,rfl,h1⟩:=rep_get h
  obtain ⟨v,e1,r⟩:=rs.sl j s h1
  exact ⟨v,by rw [rep_at];exact e1,sl_sh.mpr r⟩
 ·obtain ⟨i',rfl,h1⟩:=rep_get e1
  obtain ⟨j',rfl,h2⟩:=rep_get e2
  rw [rep_at] at x1 x2
  exact rs.apart i' j' s s' x (fun z=>hij (by rw [z])) h1 m1 h2 m2 x1 x2
 ·obtain ⟨q',hq',e⟩:=List.mem_map.mp hq
  obtain ⟨z1,xs,z2⟩:=rs.pin q' hq'
  subst e
  have e:q'.1+k=k+q'.1:=Nat.add_comm _ _
  exact ⟨by show (List.replicate k none++σ)[q'.1+k]? = _;rw [e,rep_at];exact z1,xs,by show (List.replicate k none++p)[q'.1+k]? = _;rw [e,rep_at];exact z2⟩
theorem RS.unshift (rs:RS (C.sh k) p σ F H) (hk:k<=p.length):RS C (p.drop k) (σ.drop k) F H:=by
 refine ⟨rs.sub,rs.ext,rs.new,fun x o h n=>rs.keep x o h fun q hq=>?_,rs.grow,by rw [List.length_drop,List.length_drop,rs.len],fun i s h=>?_,fun i j s s' x hij e1 m1 e2 m2 x1 x2=>?_,fun q hq=>?_⟩
 ·obtain ⟨q',hq',e⟩:=List.mem_map.mp hq
  rw [<-e];exact n q' hq'
 ·rw [List.getElem?_drop] at h
  obtain ⟨v,e1,r⟩:=rs.sl _ s h
  exact ⟨v,by rw [List.getElem?_drop];exact e1,sl_sh.mp r⟩
 ·rw [List.getElem?_drop] at e1 e2 x1 x2
  exact rs.apart _ _ s s' x (fun z=>hij (by omega)) e1 m1 e2 m2 x1 x2
 ·obtain ⟨z1,xs,z2⟩:=rs.pin (q.1+k,q.2) (List.mem_map.mpr ⟨q,hq,rfl⟩)
  have e:q.1+k=k+q.1:=Nat.add_comm _ _
  refine ⟨?_,xs,?_⟩
  ·rw [List.getElem?_drop,<-e];exact z1
  ·rw [List.getElem?_drop,<-e];exact z2
def XGk (C:Pc) (k:Nat) (p:PSt) (σ:St) (F:Hp) (R:PSt->Prop) (σ1:St) (H1:Hp):Prop:=∃p1 F1,RS C p1 σ1 F1 H1/\Same F F1/\Shp p p1/\σ1.drop k=σ.drop k/\R p1
def UpGk (C:Pc) (k:Nat) (g:TGQ):TG:=fun v σ H Q=>∃p F x R,RS C p σ F H/\Rep C.K F x v/\g x p R/\∀σ1 H1,XGk C k p σ F R σ1 H1->Q σ1 H1
theorem QGk.mk {tg:Expr} {g:TG} {g':TGQ} (h:PG X tg g) (hi:∀p σ F H x v R,RS C p σ F H->Rep C.K F x v->g' x p R->g v σ H (XGk C k p σ F R)):PG X tg (UpGk C k g'):=fun pins s σ H v u Q I r ⟨p,F,x,R,rs,rx,hg,hq⟩=>
 thn (h pins s σ H v u _ I r (hi p σ F H x v R rs rx hg)) fun _ _ ⟨σ1,H1,I1,q1⟩=>⟨σ1,H1,I1,hq σ1 H1 q1⟩
def gkName (i:Nat):TGQ:=fun x p Q=>mutL p i=none/\Q (p.set i (some (.d x)))
theorem gk_name {i:Nat} {x:Str} (hik:i<k) (hN:X.N.Nodup) (hi:X.N[i]? = some x) (hx:Loc X.env.scope x) (hf:X.fn x=true\/X.env.scope.names.lookup x=some .local:=by first|exact .inl rfl|exact .inr rfl|assumption):PG X (.Name x pos) (UpGk C k (gkName i)):=
 QGk.mk (pg_name hN hi hx hf) fun p σ F H x v R rs rx ⟨hn,q⟩=>by
  have hb:nbr p i=true:=by
   unfold nbr
   unfold mutL at hn
   split
   ·rename_i e;rw [e] at hn;cases hn
   ·rfl
  refine ⟨_,F,rs.setD hb rx,.refl _,⟨List.length_set,fun j s e m=>?_⟩,?_,q⟩
  ·by_cases hj:i=j
   ·subst hj
    unfold mutL at hn
    rw [e] at hn
    cases s with
    | d x=>cases m
    | own xs=>cases hn
    | bor xs=>cases hn
   ·exact ⟨s,by rw [List.getElem?_set_ne hj];exact e,m⟩
  ·apply List.ext_getElem?
   intro j
   rw [List.getElem?_drop,List.getElem?_drop,List.getElem?_set_ne (by omega)]
def qYes:TTQ:=fun p Q=>Q true p
theorem ts_nil:PTs X [] (UpT C qYes):=fun pins s σ H Q I ⟨p,F,R,rs,ht,hq⟩=>pts_nil pins s σ H Q I (hq true H ⟨p,F,rs,.refl _,.refl _,ht⟩)
theorem ts_one {tt:TTQ} (h:PT X c (UpT C tt)):PTs X [c] (UpT C tt):=pts_one h
def nComp (k:Nat) (ti:TIQ) (g:TGQ) (tt:TTQ) (te:TQ):TN:=fun p Q=>ti p fun n item p1=>∃I:Nat->List D->PSt->Prop,I 0 [] (List.replicate k none++p1)/\n<=100000 /\
 (∀i ys p2,i<n->I i ys p2->ys.length<=i/\g (item i) p2 fun p3=>tt p3 fun b p4=>if b=true then te p4 fun e p5=>∃y,e=.fz y/\I (i+1) (ys++[y]) p5 else I (i+1) ys p4)/\∀ys p2,I n ys p2->Q (.ro ys) (p2.drop k)
theorem comp_low {ti:TIQ} {g:TGQ} {tt:TTQ} {te:TQ} {R:Rt->PSt->Prop} {Q:VK} (rs:RS C p σ F H) (ht:nComp k ti g tt te p R) (hq:∀v H1,XN C p σ F R v H1->Q v H1) :
  tComp k (UpI C ti) (UpGk (C.sh k) k g) (UpT (C.sh k) tt) (Up (C.sh k) te) σ H Q:=
 ⟨p,F,_,rs,ht,fun J H1 ⟨n,item,p1,F1,rs1,s1,sh1,jq,I,i0,hn,istep,iend⟩=>by
  have lp:p1.length=σ.length:=rs1.len
  refine ⟨fun i m ys σ2 H2=>m=n - i/\i<=n/\∃p2 F2 zs,RS (C.sh k) p2 σ2 F2 H2/\Same F1 F2/\Shp (List.replicate k none++p1) p2/\σ2.drop k=σ/\RepL C.K F2 zs ys/\I i zs p2,⟨n,by simp,Nat.zero_le _,_,F1,[],rs1.shift,.refl _,.refl _,by simp,.nil,i0⟩,?_⟩
  rintro i m ys σ2 H2 ⟨rfl,hi,p2,F2,zs,rs2,s2,sh2,d2,rz,i2⟩
  have hkp:k<=p2.length:=by
   have:=sh2.1
   rw [List.length_append,List.length_replicate] at this
   omega
  by_cases hlt:i<n
  ·obtain ⟨hl,st⟩:=istep i zs p2 hlt i2
   refine .inr ⟨jq.go i F2 H2 rs2.sub s2 hlt,?_,fun ys' σ' H'=>∃p' F' zs',RS (C.sh k) p' σ' F' H'/\Same F1 F'/\Shp (List.replicate k none++p1) p'/\σ'.drop k=σ/\RepL C.K F' zs' ys'/\I (i+1) zs' p',fun _ _ _ h=>⟨n - (i+1),by omega,rfl,hlt,h⟩,fun x H' y=>?_⟩
   ·rw [<-rz.length];exact Nat.lt_of_le_of_lt hl (Nat.lt_of_lt_of_le (Nat.lt_of_lt_of_le hlt hn) (by decide))
   obtain ⟨F3,rs3,s3,r3⟩:=JQ.out (C:=C.sh k) jq rs2 s2 hlt y
   refine ⟨p2,F3,item i,_,rs3,r3,st,fun σ4 H4 ⟨p4,F4,rs4,s4,sh4,d4,q4⟩=>?_⟩
   refine upT1 rs4 q4 fun b p5 F5 H5 rs5 s5 sh5 q5=>?_
   have s15:Same F1 F5:=s2.trans (s3.trans (s4.trans s5))
   refine ite_imp (fun q5=>?_) (fun q5=>?_) q5
   ·refine up1 rs5 q5 fun e6 p6 v6 F6 H6 rs6 s6 sh6 er6 ⟨z,hz,q6⟩=>?_
    subst hz
    exact ⟨p6,F6,zs++[z],rs6,s15.trans s6,sh2.trans (sh4.trans (sh5.trans sh6)),d4.trans d2,(rz.mono (s3.trans (s4.trans (s5.trans s6)))).append (.cons er6 .nil),q6⟩
   ·exact ⟨p5,F5,zs,rs5,s15,sh2.trans (sh4.trans sh5),d4.trans d2,rz.mono (s3.trans (s4.trans s5)),q5⟩
  ·have e:i=n:=by omega
   subst e
   refine .inl ⟨jq.stop F2 H2 rs2.sub s2,fun A hA=>?_⟩
   have rs3:=rs2.unshift hkp
   rw [d2] at rs3
   refine hq _ _ (fin_new rs3 (s1.trans s2) (sh1.trans ⟨?_,fun j s h m=>?_⟩) hA rz (iend zs p2 i2))
   ·rw [List.length_drop,sh2.1,List.length_append,List.length_replicate,Nat.add_sub_cancel_left]
   ·obtain ⟨s',h',m'⟩:=sh2.2 (k+j) s (by rw [rep_at];exact h) m
    exact ⟨s',by rw [List.getElem?_drop];exact h',m'⟩⟩
theorem n_comp {elt iter tg:Expr} {ifs:List Expr} {scope:Scope} {N:List Str} {ti:TIQ} {g:TGQ} {tt:TTQ} {te:TQ} (S:CompScope X scope N k) (hc:X.calm=true) (hi:PI X tg iter (UpI C ti))
  (hg:∀Z s H fp,PG (cxComp X scope N Z s H fp) tg (UpGk (C.sh k) k g)) (ht:∀Z s H fp,PTs (cxComp X scope N Z s H fp) ifs (UpT (C.sh k) tt)) (he:∀Z s H fp,PE (cxComp X scope N Z s H fp) elt (Up (C.sh k) te))
  (hs:∀x,foldedSetIterable iter X.env x=pure x:=by intro _;rfl):PE X (.ListComp elt [⟨tg,iter,ifs,0⟩] scope pos) (UpN C (nComp k ti g tt te)):=
 QN.mk (pe_comp S hc hi hg ht he hs) fun p σ F H R rs ht=>comp_low rs ht fun _ _ h=>h
theorem RS.more {F2 H2:Hp} (rs:RS C p σ F H) (s1:Same H H2) (s2:Same F F2) (s3:Same F2 H2) (hn:∀x o,F2 x=some o->F x=some o\/H x=none):RS C p σ F2 H2:=by
 have still:∀x o,F x=none->H x=some o->F2 x=none:=fun x o h1 h2=>by
  cases q:F2 x with
  | none=>rfl
  | some u=>
   rcases hn x u q with z|z
   ·rw [h1] at z;cases z
   ·rw [h2] at z;cases z
 refine ⟨s3,rs.ext.trans s2,fun x o h=>?_,fun x o h n=>s1 _ _ (rs.keep x o h n),fun x h z=>?_,rs.len,fun i s h=>?_,rs.apart,rs.pin⟩
 ·rcases hn x o h with z|z
  ·exact rs.new x o z
  ·exact .inr (.inl (rs.free z).2.1)
 ·have:=rs.grow x h
  cases q:H x with
  | none=>exact this q
  | some u=>rw [s1 x u q] at z;cases z
 ·obtain ⟨v,e1,r⟩:=rs.sl i s h
  refine ⟨v,e1,?_⟩
  cases s with
  | d x=>exact Rep.mono s2 r
  | own xs=>obtain ⟨x,vs,z1,z2,z3,z4,z5⟩:=r;exact ⟨x,vs,z1,still x _ z2 z4,z3,s1 _ _ z4,z5.mono s2⟩
  | bor xs=>obtain ⟨x,vs,z1,z2,z3,z4,z5⟩:=r;exact ⟨x,vs,z1,still x _ z2 z4,z3,s1 _ _ z4,z5.mono s2⟩
def pairsOf (ds:List D):List D:=(List.range ds.length).map fun (i:Nat)=>.tup [.int (i:Int),ds.getD i .non]
def nListEn (ta:TQ):TN:=fun p Q=>ta p fun e p1=>∃ds,lk p1 e=.lst ds/\Q (.ro (pairsOf ds)) p1
theorem n_listEn {l:Expr} {p1 p2 pos2:Pos} (hK:X.K=C.K) (hc:X.calm=true) (hl:PE X l (Up C ta)) (hg:Gl X "list") (hm:X.mg "list"=none) (hg2:Gl X "enumerate") (hm2:X.mg "enumerate"=none)
  (hs:starEach [l] X.env=[(false,eval l X.env)]:=by rfl):PE X (.Call (.Name "list" p1) [.Call (.Name "enumerate" p2) [l] [] pos2] [] pos) (UpN C (nListEn ta)):=
 QN.mk (pe_listEnumK hK hc hl hg hm hg2 hm2 hs) fun p σ F H R rs ht=>up1 rs ht fun e1 p1 v1 F1 H1 rs1 s1 sh er1 ⟨ds,h1,q⟩=>by
  obtain ⟨a1,vs,rfl,g,r⟩:=ev_lst rs1 er1 h1
  refine ⟨a1,vs,rfl,.of g,fun x ts H2 hx hts tl hH hr htup=>?_⟩
  have tl':ts.length=ds.length:=by rw [tl,r.length]
  have tupAt:∀(j:Nat) (t:Addr),ts[j]? = some t->∃v,vs[j]? = some v/\Rep C.K F1 (ds.getD j .non) v/\H2 t=some (.tup [.int (j:Int),v]):=fun j t hj=>by
   have hj':j<ds.length:=by rw [<-tl'];exact (List.getElem?_eq_some_iff.mp hj).1
   obtain ⟨v,e1,r1⟩:=r.get (getD_some hj')
   exact ⟨v,e1,r1,htup j t v hj e1⟩
  obtain ⟨F2,hF2⟩:∃F2:Hp,F2=fun b=>if b∈ts then H2 b else F1 b:=⟨_,rfl⟩
  have f1:Same F1 F2:=fun b o h=>by
   rw [hF2]
   show (if b∈ts then H2 b else F1 b)=some o
   by_cases hb:b∈ts
   ·have:=(hts b hb).1
    have h':=rs1.sub b o h
    rw [this] at h';cases h'
   ·rw [if_neg hb];exact h
  have f2:Same F2 H2:=fun b o h=>by
   rw [hF2] at h
   have h':(if b∈ts then H2 b else F1 b)=some o:=h
   by_cases hb:b∈ts
   ·rw [if_pos hb] at h';exact h'
   ·rw [if_neg hb] at h';exact hH b o (rs1.sub b o h')
  have f3:∀b o,F2 b=some o->F1 b=some o\/H1 b=none:=fun b o h=>by
   rw [hF2] at h
   have h':(if b∈ts then H2 b else F1 b)=some o:=h
   by_cases hb:b∈ts
   ·exact .inr (hts b hb).1
   ·rw [if_neg hb] at h';exact .inl h'
  have rs2:=rs1.more hH f1 f2 f3
  have fx:F2 x=none:=by
   cases q:F2 x with
   | none=>rfl
   | some o=>
    rw [hF2] at q
    have q':(if x∈ts then H2 x else F1 x)=some o:=q
    by_cases hb:x∈ts
    ·exact absurd rfl (hts x hb).2
    ·rw [if_neg hb] at q'
     have:=rs1.sub x o q'
     rw [hx] at this;cases this
  have rp:RepL C.K F2 (pairsOf ds) (ts.map V.ref):=by
   have all:∀(ts':List Addr) (es:List D),ts'.length=es.length->(∀(j:Nat) (t:Addr) (d:D),ts'[j]? = some t->es[j]? = some d->Rep C.K F2 d (.ref t))->RepL C.K F2 es (ts'.map V.ref):=by
    intro ts'
    induction ts' with
    | nil=>intro es hl _;cases es with
     | nil=>exact .nil
     | cons d r=>cases hl
    | cons t r ih=>intro es hl hh;cases es with
     | nil=>cases hl
     | cons d r'=>
      exact .cons (hh 0 t d rfl rfl) (ih r' (by simpa using hl) fun j t d h1 h2=>hh (j+1) t d (by simpa using h1) (by simpa using h2))
   refine all ts _ (by unfold pairsOf;rw [List.length_map,List.length_range,tl']) fun j t d h1 h2=>?_
   obtain ⟨v,e1,r1,e2⟩:=tupAt j t h1
   unfold pairsOf at h2
   have hj':j<ds.length:=by rw [<-tl'];exact (List.getElem?_eq_some_iff.mp h1).1
   rw [List.getElem?_map,List.getElem?_range hj'] at h2
   cases h2
   have hF:F2 t=some (.tup [.int (j:Int),v]):=by
    rw [hF2]
    show (if t∈ts then H2 t else F1 t)=_
    rw [if_pos (List.mem_of_getElem? h1)];exact e2
   exact .tup hF (.cons (.int _) (.cons (r1.mono f1) .nil))
  obtain ⟨z1,z2,z3⟩:=rs1.free hx
  exact ⟨.ro _,p1,F2,rs2,s1.trans f1,sh,⟨x,_,rfl,fx,z2,hr,rp,z3⟩,q⟩
end
theorem atl_0 {α:Type} (x:α) (xs:List α):atI (x::xs) 0=some x:=atI_nat (j:=0) rfl
theorem atl_1 {α:Type} (x y:α) (xs:List α):atI (x::y::xs) 1=some y:=atI_nat (j:=1) rfl
theorem atl_2 {α:Type} (x y z:α) (xs:List α):atI (x::y::z::xs) 2=some z:=atI_nat (j:=2) rfl
theorem atl_3 {α:Type} (x y z u:α) (xs:List α):atI (x::y::z::u::xs) 3=some u:=atI_nat (j:=3) rfl
theorem ixl_20:ixN 2 0=some 0:=rfl
theorem ixl_21:ixN 2 1=some 1:=rfl
theorem getD_ints {ns:List Int} {i:Nat} (h:i<ns.length):(ns.map D.int).getD i .non=.int (ns.getD i 0):=by
 rw [List.getD_eq_getElem?_getD,List.getElem?_map,List.getElem?_eq_getElem h,List.getD_eq_getElem?_getD,List.getElem?_eq_getElem h];rfl
theorem cut_take {α:Type} (xs:List α) (m:Nat):cut xs none (some (m:Int))=xs.take m:=by
 unfold cut
 rw [HT.sIx_none,HT.sIx_nat,List.drop_zero,Nat.sub_zero]
 by_cases h:m<=xs.length
 ·rw [Nat.min_eq_left h]
 ·rw [Nat.min_eq_right (by omega),List.take_of_length_le (Nat.le_refl _),List.take_of_length_le (by omega)]
theorem cut_takeI {α:Type} (xs:List α) {k:Int} (h:0<=k):cut xs none (some k)=xs.take k.toNat:=by
 have e:k=((k.toNat:Nat):Int):=by omega
 rw [e,cut_take];congr 1
theorem for_q {ti:TIQ} {g:TGQ} {tb:TSQ} {E:PEnds} {p:PSt} {n:Nat} {item:Nat->D} {p1:PSt} (hti:∀Q:Nat->(Nat->D)->PSt->Prop,Q n item p1->ti p Q) (I:Nat->PSt->Prop) (h0:I 0 p1)
  (hs:∀i p2,i<n->I i p2->g (item i) p2 fun p3=>tb { E with nx:=I (i+1),ct:=I (i+1),bk:=E.nx } p3) (hd:∀p2,I n p2->E.nx p2):qFor ti g tb E p:=hti _ ⟨I,h0,hs,hd⟩
theorem while_q {c:TTQ} {tb:TSQ} {E:PEnds} {p:PSt} (I:PSt->Prop) (μ:PSt->Nat) (h0:I p)
  (hs:∀p1,I p1->c p1 fun b p2=>if b=true then tb { E with nx:=fun q=>I q/\μ q<μ p1,ct:=fun q=>I q/\μ q<μ p1,bk:=E.nx } p2 else E.nx p2):qWhile c tb E p:=⟨I,μ,h0,hs⟩
theorem comp_q {k:Nat} {ti:TIQ} {g:TGQ} {tt:TTQ} {te:TQ} {Q:Rt->PSt->Prop} {p:PSt} {n:Nat} {item:Nat->D} {p1:PSt} (hti:∀Q:Nat->(Nat->D)->PSt->Prop,Q n item p1->ti p Q) (hn:n<=100000) (I:Nat->List D->PSt->Prop) (h0:I 0 [] (List.replicate k none++p1))
  (hl:∀i ys p2,I i ys p2->ys.length<=i)
  (hs:∀i ys p2,i<n->I i ys p2->g (item i) p2 fun p3=>tt p3 fun b p4=>if b=true then te p4 fun e p5=>∃y,e=.fz y/\I (i+1) (ys++[y]) p5 else I (i+1) ys p4) (hd:∀ys p2,I n ys p2->Q (.ro ys) (p2.drop k)):nComp k ti g tt te p Q:=
 hti _ ⟨I,h0,hn,fun i ys p2 hi h=>⟨hl i ys p2 h,hs i ys p2 hi h⟩,hd⟩
theorem comp_map {ti:TIQ} {te:TQ} {Q:Rt->PSt->Prop} {p:PSt} {n:Nat} {item:Nat->D} {p1:PSt} (hti:∀Q:Nat->(Nat->D)->PSt->Prop,Q n item p1->ti p Q) (hn:n<=100000) (f:Nat->D)
  (hs:∀i (R:Ev->PSt->Prop),i<n->R (.fz (f i)) (some (.d (item i))::p1)->te (some (.d (item i))::p1) R) (hd:Q (.ro ((List.range n).map f)) p1):nComp 1 ti (gkName 0) qYes te p Q:=by
 refine comp_q hti hn (fun i ys p2=>ys=(List.range i).map f/\∃o:Option D,p2=(o.map Sl.d)::p1) ⟨rfl,none,rfl⟩ (fun i ys p2 h=>by rw [h.1,List.length_map,List.length_range];exact Nat.le_refl _) ?_ ?_
 ·rintro i ys p2 hi ⟨rfl,o,rfl⟩
  refine ⟨by cases o<;>rfl,?_⟩
  show qYes (some (.d (item i))::p1) _
  unfold qYes
  simp only [if_true]
  refine hs i _ hi ⟨_,rfl,?_,some (item i),rfl⟩
  rw [List.range_succ,List.map_append];rfl
 ·rintro ys p2 ⟨rfl,o,rfl⟩
  exact hd
theorem comp_filter {ti:TIQ} {tt:TTQ} {te:TQ} {Q:Rt->PSt->Prop} {p:PSt} {n:Nat} {item:Nat->D} {p1:PSt} (hti:∀Q:Nat->(Nat->D)->PSt->Prop,Q n item p1->ti p Q) (hn:n<=100000) (t:Nat->Bool) (f:Nat->D)
  (hs:∀i (R:Bool->PSt->Prop),i<n->R (t i) (some (.d (item i))::p1)->tt (some (.d (item i))::p1) R)
  (he:∀i (R:Ev->PSt->Prop),i<n->t i=true->R (.fz (f i)) (some (.d (item i))::p1)->te (some (.d (item i))::p1) R) (hd:Q (.ro (((List.range n).filter t).map f)) p1):nComp 1 ti (gkName 0) tt te p Q:=by
 refine comp_q hti hn (fun i ys p2=>ys=((List.range i).filter t).map f/\∃o:Option D,p2=(o.map Sl.d)::p1) ⟨rfl,none,rfl⟩ (fun i ys p2 h=>by
  rw [h.1,List.length_map]
  exact Nat.le_trans (List.length_filter_le _ _) (by rw [List.length_range];exact Nat.le_refl _)) ?_ ?_
 ·rintro i ys p2 hi ⟨rfl,o,rfl⟩
  refine ⟨by cases o<;>rfl,?_⟩
  show tt (some (.d (item i))::p1) _
  refine hs i _ hi ?_
  cases ht:t i with
  | true=>
   rw [if_pos rfl]
   refine he i _ hi ht ⟨_,rfl,?_,some (item i),rfl⟩
   rw [List.range_succ,List.filter_append,List.map_append]
   simp [ht]
  | false=>
   rw [if_neg Bool.false_ne_true]
   refine ⟨?_,some (item i),rfl⟩
   rw [List.range_succ,List.filter_append]
   simp [ht]
 ·rintro ys p2 ⟨rfl,o,rfl⟩
  exact hd
end L2
namespace L2
open PySem
section
variable {o:Option Sl} {p:PSt} {i:Nat} {x:D} {xs ys:List D} {u:Option D}
theorem nb_s:nbr (o::p) (i+1)=nbr p i:=rfl
theorem nb_n:nbr (none::p) 0=true:=rfl
theorem nb_d:nbr (some (.d x)::p) 0=true:=rfl
theorem nb_o:nbr (some (.own xs)::p) 0=true:=rfl
theorem nb_u:nbr (Option.map Sl.d u::p) 0=true:=by cases u<;>rfl
theorem mu_s:mutL (o::p) (i+1)=mutL p i:=rfl
theorem mu_n:mutL (none::p) 0=none:=rfl
theorem mu_d:mutL (some (.d x)::p) 0=none:=rfl
theorem mu_o:mutL (some (.own xs)::p) 0=some xs:=rfl
theorem mu_b:mutL (some (.bor xs)::p) 0=some xs:=rfl
theorem mu_u:mutL (Option.map Sl.d u::p) 0=none:=by cases u<;>rfl
theorem pu_s:putL (o::p) (i+1) ys=o::putL p i ys:=by
 unfold putL
 rw [List.getElem?_cons_succ]
 cases h:p[i]? with
 | none=>rfl
 | some s=>cases s<;>rfl
theorem pu_0 {s:Sl}:putL (some s::p) 0 ys=some (s.put ys)::p:=rfl
end
theorem seq_cutP {t R:TSQ} {E:PEnds} {p:PSt} (I:PSt->Prop) (h:∀k:PSt->Prop,(∀p',I p'->k p')->t { E with nx:=k } p) (hR:∀p',I p'->R E p'):qSeq t R E p:=h (R E) hR
theorem seq_goP {t R:TSQ} {E:PEnds} {p:PSt} (h:t { E with nx:=R E } p):qSeq t R E p:=h
def Any:Option (D ⊕ List D)->Option Sl
 | none=>none
 | some (.inl x)=>some (.d x)
 | some (.inr xs)=>some (.own xs)
theorem nb_a {w:Option (D ⊕ List D)} {p:PSt}:nbr (Any w::p) 0=true:=by
 cases w with
 | none=>rfl
 | some x=>cases x<;>rfl
theorem eqd_00:EqDom (.lst []) (.lst [])=True:=eq_true (.li ⟨[],rfl⟩ ⟨[],rfl⟩)
theorem AllI.map (ns:List Int):AllI (ns.map D.int):=⟨ns,rfl⟩
theorem snoc_of {α:Type} (xs:List α) (h:xs≠[]):∃ys y,xs=ys++[y]:=⟨xs.dropLast,xs.getLast h,(List.dropLast_concat_getLast h).symm⟩
theorem for_i {ti:TIQ} {g:TGQ} {tb:TSQ} {E:PEnds} {p:PSt} (h:ti p fun n item p1=>∃I:Nat->PSt->Prop,I 0 p1/\(∀i p2,i<n->I i p2->g (item i) p2 fun p3=>tb { E with nx:=I (i+1),ct:=I (i+1),bk:=E.nx } p3)/\∀p2,I n p2->E.nx p2):qFor ti g tb E p:=h
theorem args_scr {K:PySem.W.Frag} {H:Hp} {a:Addr} {ns:List Int} (h:SqL K H a (ns.map V.int)):ArgsR K H H [.d (.scr ns)] [.ref a]:=by
 refine ⟨rfl,fun i s e=>?_,fun i j xs ys x hij e1 e2 _ _=>?_⟩
 ·cases i with
  | zero=>simp at e;subst e;exact ⟨.ref a,rfl,.scr h⟩
  | succ i=>simp at e
 ·cases i with
  | zero=>simp at e1
  | succ i=>simp at e1
theorem ex_ss {a:Sl} {P:Sl->Prop}:(∃s,some (some a)=some (some s)/\P s)=P a:=propext ⟨fun ⟨s,e,h⟩=>by cases e;exact h,fun h=>⟨a,rfl,h⟩⟩
theorem ex_int {a:Int} {P:Int->Prop}:(∃i,D.int a=D.int i/\P i)=P a:=propext ⟨fun ⟨s,e,h⟩=>by cases e;exact h,fun h=>⟨a,rfl,h⟩⟩
theorem ex_int2 {a b:Int} {P:Int->Int->Prop}:(∃i j,D.int a=D.int i/\D.int b=D.int j/\P i j)=P a b:=propext ⟨fun ⟨s,t,e,e',h⟩=>by cases e;cases e';exact h,fun h=>⟨a,b,rfl,rfl,h⟩⟩
theorem ex_bl {a:Bool} {P:Bool->Prop}:(∃i,D.bl a=D.bl i/\P i)=P a:=propext ⟨fun ⟨s,e,h⟩=>by cases e;exact h,fun h=>⟨a,rfl,h⟩⟩
theorem ex_fz {a:D} {P:D->Prop}:(∃i,Ev.fz a=Ev.fz i/\P i)=P a:=propext ⟨fun ⟨s,e,h⟩=>by cases e;exact h,fun h=>⟨a,rfl,h⟩⟩
theorem ex_fzl {a:List D} {P:List D->Prop}:(∃i,Ev.fz (D.lst a)=Ev.fz (D.lst i)/\P i)=P a:=propext ⟨fun ⟨s,e,h⟩=>by cases e;exact h,fun h=>⟨a,rfl,h⟩⟩
theorem ex_some {α:Type} {a:α} {P:α->Prop}:(∃i,some a=some i/\P i)=P a:=propext ⟨fun ⟨s,e,h⟩=>by cases e;exact h,fun h=>⟨a,rfl,h⟩⟩
theorem ex_lst {a:List D} {P:List D->Prop}:(∃i,D.lst a=D.lst i/\P i)=P a:=propext ⟨fun ⟨s,e,h⟩=>by cases e;exact h,fun h=>⟨a,rfl,h⟩⟩
theorem ex_own {a:List D} {P:List D->Prop}:(∃i,some (some (Sl.own a))=some (some (Sl.own i))/\P i)=P a:=propext ⟨fun ⟨s,e,h⟩=>by cases e;exact h,fun h=>⟨a,rfl,h⟩⟩
theorem ex_tup {a:List D} {P:List D->Prop}:(∃i,D.tup a=D.tup i/\P i)=P a:=propext ⟨fun ⟨s,e,h⟩=>by cases e;exact h,fun h=>⟨a,rfl,h⟩⟩
theorem ex_e1 {α:Sort _} {a:Ev} {P:Ev->α->Prop}:(∃e x,[a]=[e]/\P e x)=∃x,P a x:=propext ⟨fun ⟨s,x,e,h⟩=>by cases e;exact ⟨x,h⟩,fun ⟨x,h⟩=>⟨a,x,rfl,h⟩⟩
theorem ss_and {α:Type} {a:α} {P:Prop}:(a=a/\P)=P:=by simp
end L2
namespace L2
open PySem PySem.Spec PyProof.Rows
def Pc.add (C:Pc) (W:Hp):Pc:=⟨C.K,C.F0,fun a=>match W a with|some o=>some o|none=>C.H0 a,C.bs⟩
def Hp0:Hp:=fun _=>none
def Hld (o:HO):Prop:=(∃vs,o=.lst vs)\/(∃kvs,o=.dK kvs)\/∃kvs,o=.dT kvs
structure WOk (C:Pc) (W:Hp):Prop where
 lst:∀a o,W a=some o->Hld o
 h0:∀a o,W a=some o->C.H0 a=none
 f0:∀a o,W a=some o->C.F0 a=none
 bs:∀a o,W a=some o->∀q∈C.bs,q.2≠a
theorem WOk.nil (C:Pc):WOk C Hp0:=⟨fun _ _ h=>(nomatch h),fun _ _ h=>(nomatch h),fun _ _ h=>(nomatch h),fun _ _ h=>(nomatch h)⟩
section
variable {X:Cx} {C:Pc} {W:Hp} {p:PSt} {σ:St} {F H:Hp} {a:Addr} {o:HO}
theorem add_some (h:W a=some o):(C.add W).H0 a=some o:=by show (match W a with|some o=>some o|none=>C.H0 a)=_;rw [h]
theorem add_none (h:W a=none):(C.add W).H0 a=C.H0 a:=by show (match W a with|some o=>some o|none=>C.H0 a)=_;rw [h]
theorem of_add (h:(C.add W).H0 a=none):W a=none/\C.H0 a=none:=by
 cases e:W a with
 | none=>exact ⟨rfl,by rw [<-add_none (C:=C) e];exact h⟩
 | some o=>rw [add_some e] at h;cases h
theorem WOk.non (ok:WOk C W) (h:C.H0 a=some o):W a=none:=by
 cases e:W a with
 | none=>rfl
 | some u=>rw [ok.h0 a u e] at h;cases h
theorem RS.wH (rs:RS (C.add W) p σ F H) (ok:WOk C W) (h:W a=some o):H a=some o:=rs.keep a o (add_some h) (ok.bs a o h)
theorem RS.wF (rs:RS (C.add W) p σ F H) (ok:WOk C W) (h:W a=some o):F a=none:=by
 cases e:F a with
 | none=>rfl
 | some u=>
  rcases rs.new a u e with z|z|⟨xs,z⟩
  ·rw [show (C.add W).F0 a=C.F0 a from rfl,ok.f0 a o h] at z;cases z
  ·rw [add_some h] at z;cases z
  ·have:=rs.sub a u e
   rw [rs.wH ok h,z] at this
   rcases ok.lst a o h with ⟨vs,rfl⟩|⟨vs,rfl⟩|⟨vs,rfl⟩<;>cases this
theorem RS.un (rs:RS (C.add W) p σ F H) (ok:WOk C W):RS C p σ F H:=by
 refine ⟨rs.sub,rs.ext,fun b u e=>?_,fun b u e n=>rs.keep b u (by rw [add_none (ok.non e)];exact e) n,fun b n=>rs.grow b fun z=>n (of_add z).2,rs.len,fun i s e=>?_,rs.apart,rs.pin⟩
 ·rcases rs.new b u e with z|z|z
  ·exact .inl z
  ·exact .inr (.inl (of_add z).2)
  ·exact .inr (.inr z)
 ·obtain ⟨v,e1,r⟩:=rs.sl i s e
  refine ⟨v,e1,?_⟩
  cases s with
  | d x=>exact r
  | own xs=>obtain ⟨b,vs,z1,z2,z3,z4,z5⟩:=r;exact ⟨b,vs,z1,z2,(of_add z3).2,z4,z5⟩
  | bor xs=>exact r
theorem RS.ad (rs:RS C p σ F H) (hW:∀a o,W a=some o->H a=some o/\F a=none)
  (ho:∀(i:Nat) (xs:List D) (a:Addr),p[i]? = some (some (.own xs))->σ[i]? = some (some (.ref a))->W a=none):RS (C.add W) p σ F H:=by
 refine ⟨rs.sub,rs.ext,fun b u e=>?_,fun b u e n=>?_,fun b n=>?_,rs.len,fun i s e=>?_,rs.apart,rs.pin⟩
 ·rcases rs.new b u e with z|z|z
  ·exact .inl z
  ·refine .inr (.inl ?_)
   cases q:W b with
   | none=>rw [add_none q];exact z
   | some w=>rw [(hW b w q).2] at e;cases e
  ·exact .inr (.inr z)
 ·cases q:W b with
  | none=>rw [add_none q] at e;exact rs.keep b u e n
  | some w=>rw [add_some q] at e;cases e;exact (hW b _ q).1
 ·cases q:W b with
  | none=>rw [add_none q] at n;exact rs.grow b n
  | some w=>intro z;rw [(hW b _ q).1] at z;cases z
 ·obtain ⟨v,e1,r⟩:=rs.sl i s e
  refine ⟨v,e1,?_⟩
  cases s with
  | d x=>exact r
  | own xs=>
   obtain ⟨b,vs,rfl,z2,z3,z4,z5⟩:=r
   exact ⟨b,vs,rfl,z2,by rw [add_none (ho i xs b e e1)];exact z3,z4,z5⟩
  | bor xs=>exact r
theorem RS.wO (rs:RS (C.add W) p σ F H) {i:Nat} {xs:List D} (e:p[i]? = some (some (.own xs))) (e1:σ[i]? = some (some (.ref a))):W a=none/\∃vs,H a=some (.lst vs):=by
 obtain ⟨v,e2,b,vs,rfl,z2,z3,z4,z5⟩:=rs.sl i _ e
 rw [e1] at e2;cases e2
 exact ⟨(of_add z3).1,vs,z4⟩
theorem RS.wputO {o us:HO} (rs:RS (C.add W) p σ F H) (ok:WOk C W) (h:W a=some o) (hn:Hld us) :
  RS (C.add (upd W a us)) p σ F (upd H a us)/\WOk C (upd W a us):=by
 have rs0:=rs.un ok
 have fa:=rs.wF ok h
 have hin:∀b o,upd W a us b=some o->∃o',W b=some o':=fun b o e=>by
  by_cases hb:b=a
  ·subst hb;exact ⟨_,h⟩
  ·rw [upd_ne hb] at e;exact ⟨_,e⟩
 refine ⟨RS.ad ⟨fun b u e=>?_,rs0.ext,rs0.new,fun b u e n=>?_,fun b n e=>?_,rs0.len,fun i s e=>?_,rs0.apart,rs0.pin⟩ (fun b u e=>?_) (fun i xs b e e1=>?_),⟨fun b u e=>?_,fun b u e=>?_,fun b u e=>?_,fun b u e=>?_⟩⟩
 ·rw [upd_ne (fun z=>by rw [z,fa] at e;cases e)];exact rs0.sub b u e
 ·have hb:b≠a:=fun z=>by rw [z,ok.h0 a _ h] at e;cases e
  rw [upd_ne hb];exact rs0.keep b u e n
 ·by_cases hb:b=a
  ·subst hb;rw [upd_same] at e;cases e
  ·rw [upd_ne hb] at e;exact rs0.grow b n e
 ·obtain ⟨v,e1,r⟩:=rs.sl i s e
  obtain ⟨v',e1',r'⟩:=rs0.sl i s e
  rw [e1] at e1';cases e1'
  refine ⟨v,e1,?_⟩
  cases s with
  | d x=>exact r'
  | own xs=>
   obtain ⟨b,vs',rfl,z2,z3,z4,z5⟩:=r'
   have hb:b≠a:=fun z=>by have:=(rs.wO e e1).1;rw [z,h] at this;cases this
   exact ⟨b,vs',rfl,z2,z3,by rw [upd_ne hb];exact z4,z5⟩
  | bor xs=>
   obtain ⟨b,vs',rfl,z2,⟨q,hq,z3⟩,z4,z5⟩:=r'
   have hb:b≠a:=fun z=>ok.bs a _ h q hq (z3.trans z)
   exact ⟨b,vs',rfl,z2,⟨q,hq,z3⟩,by rw [upd_ne hb];exact z4,z5⟩
 ·by_cases hb:b=a
  ·subst hb;rw [upd_same] at e ⊢;exact ⟨e,fa⟩
  ·rw [upd_ne hb] at e ⊢;exact ⟨rs.wH ok e,rs.wF ok e⟩
 ·have:=(rs.wO e e1).1
  by_cases hb:b=a
  ·subst hb;rw [h] at this;cases this
  ·rw [upd_ne hb];exact this
 ·by_cases hb:b=a
  ·subst hb;rw [upd_same] at e;cases e;exact hn
  ·rw [upd_ne hb] at e;exact ok.lst b u e
 ·obtain ⟨o',e'⟩:=hin b u e;exact ok.h0 b o' e'
 ·obtain ⟨o',e'⟩:=hin b u e;exact ok.f0 b o' e'
 ·obtain ⟨o',e'⟩:=hin b u e;exact ok.bs b o' e'
theorem RS.takeO {vs:HO} (rs:RS (C.add W) p σ F H) (ok:WOk C W) (h1:F a=none) (h2:(C.add W).H0 a=none) (h3:H a=some vs) (hn:Hld vs) (mi:Mine p σ a) :
  RS (C.add (upd W a vs)) p σ F H/\WOk C (upd W a vs):=by
 have rs0:=rs.un ok
 obtain ⟨w0,c0⟩:=of_add h2
 refine ⟨rs0.ad (fun b u e=>?_) (fun i xs b e e1=>?_),⟨fun b u e=>?_,fun b u e=>?_,fun b u e=>?_,fun b u e=>?_⟩⟩
 ·by_cases hb:b=a
  ·subst hb;rw [upd_same] at e;cases e;exact ⟨h3,h1⟩
  ·rw [upd_ne hb] at e;exact ⟨rs.wH ok e,rs.wF ok e⟩
 ·have:=(rs.wO e e1).1
  by_cases hb:b=a
  ·subst hb;exact absurd e1 (mi i _ e rfl)
  ·rw [upd_ne hb];exact this
 ·by_cases hb:b=a
  ·subst hb;rw [upd_same] at e;cases e;exact hn
  ·rw [upd_ne hb] at e;exact ok.lst b u e
 ·by_cases hb:b=a
  ·subst hb;exact c0
  ·rw [upd_ne hb] at e;exact ok.h0 b u e
 ·by_cases hb:b=a
  ·subst hb
   cases q:C.F0 b with
   | none=>rfl
   | some w=>rw [rs0.ext b w q] at h1;cases h1
  ·rw [upd_ne hb] at e;exact ok.f0 b u e
 ·by_cases hb:b=a
  ·subst hb
   intro q hq z
   obtain ⟨z1,xs,z2⟩:=rs0.pin q hq
   exact mi q.1 _ z2 rfl (by rw [z1,z])
  ·rw [upd_ne hb] at e;exact ok.bs b u e
end
structure VEnds where
 nx:Hp->PSt->Prop
 rt:Rt->Hp->PSt->Prop
 bk:Hp->PSt->Prop:=fun _ _=>False
 ct:Hp->PSt->Prop:=fun _ _=>False
abbrev TVQ:=VEnds->Hp->PSt->Prop
def VEnds.dn (C:Pc) (F0:Hp) (E:VEnds):Ends where
 nx:=fun σ H=>∃W p F,RS (C.add W) p σ F H/\WOk C W/\Same F0 F/\E.nx W p
 rt:=fun v H=>∃r W p σ F,RS (C.add W) p σ F H/\WOk C W/\Same F0 F/\RtR (C.add W) p σ F H r v/\E.rt r W p
 bk:=fun σ H=>∃W p F,RS (C.add W) p σ F H/\WOk C W/\Same F0 F/\E.bk W p
 ct:=fun σ H=>∃W p F,RS (C.add W) p σ F H/\WOk C W/\Same F0 F/\E.ct W p
theorem vdn_le {C:Pc} {F F1:Hp} {E:VEnds} (s:Same F F1):(E.dn C F1).Le (E.dn C F):=⟨fun _ _ ⟨W,p,G,a,k,b,c⟩=>⟨W,p,G,a,k,s.trans b,c⟩,fun _ _ ⟨r,W,p,σ,G,a,k,b,c⟩=>⟨r,W,p,σ,G,a,k,s.trans b,c⟩,fun _ _ ⟨W,p,G,a,k,b,c⟩=>⟨W,p,G,a,k,s.trans b,c⟩,fun _ _ ⟨W,p,G,a,k,b,c⟩=>⟨W,p,G,a,k,s.trans b,c⟩⟩
def UpV (C:Pc) (t:TVQ):TS:=fun De σ H=>∃W p F E,RS (C.add W) p σ F H/\WOk C W/\t E W p/\(E.dn C F).Le De
section
variable {X:Cx} {C:Pc} {a b c e:Expr} {pos:Pos} {K:PySem.W.Frag} {p:PSt} {σ:St} {F H:Hp} {st:Stmt} {rest:List Stmt} {t u:TVQ}
theorem VS.mk {t:TS} {t':TVQ} (h:PS X st t) (hi:∀W p σ F H E,RS (C.add W) p σ F H->WOk C W->t' E W p->t (E.dn C F) σ H):PS X st (UpV C t'):=fun pins s σ H De I ⟨W,p,F,E,rs,ok,ht,l⟩=>
 thn (h pins s σ H _ I (hi W p σ F H E rs ok ht)) fun _ _ q=>q.le l
theorem VSs.mk {sts:List Stmt} {t:TS} {t':TVQ} (h:PSs X sts t) (hi:∀W p σ F H E,RS (C.add W) p σ F H->WOk C W->t' E W p->t (E.dn C F) σ H):PSs X sts (UpV C t'):=fun pins s σ H De I ⟨W,p,F,E,rs,ok,ht,l⟩=>
 thn (h pins s σ H _ I (hi W p σ F H E rs ok ht)) fun _ _ q=>q.le l
def vLift (t:Hp->TSQ):TVQ:=fun E W p=>t W { nx:=E.nx W,rt:=fun r=>E.rt r W,bk:=E.bk W,ct:=E.ct W } p
theorem lift_le {W:Hp} {E:VEnds} (ok:WOk C W):(PEnds.dn (C.add W) F { nx:=E.nx W,rt:=fun r=>E.rt r W,bk:=E.bk W,ct:=E.ct W }).Le (E.dn C F):=
 ⟨fun _ _ ⟨p,G,a,b,c⟩=>⟨W,p,G,a,ok,b,c⟩,fun _ _ ⟨r,p,σ,G,a,b,c,d⟩=>⟨r,W,p,σ,G,a,ok,b,c,d⟩,fun _ _ ⟨p,G,a,b,c⟩=>⟨W,p,G,a,ok,b,c⟩,fun _ _ ⟨p,G,a,b,c⟩=>⟨W,p,G,a,ok,b,c⟩⟩
theorem v_lift {t:Hp->TSQ} (h:∀W,WOk C W->PS X st (UpS (C.add W) (t W))):PS X st (UpV C (vLift t)):=fun pins s σ H De I ⟨W,p,F,E,rs,ok,ht,l⟩=>
 h W ok pins s σ H De I ⟨p,F,_,rs,ht,(lift_le ok).trans l⟩
def vSeq (t u:TVQ):TVQ:=fun E W p=>t { E with nx:=u E } W p
theorem v_cons (h1:PS X st (UpV C t)) (h2:PSs X rest (UpV C u)):PSs X (st::rest) (UpV C (vSeq t u)):=
 VSs.mk (pss_cons h1 h2) fun W p σ F H E rs ok q=>⟨W,p,F,_,rs,ok,q,⟨fun σ1 H1 ⟨W1,p1,F1,rs1,ok1,s1,q1⟩=>⟨W1,p1,F1,E,rs1,ok1,q1,vdn_le s1⟩,fun _ _ h=>h,fun _ _ h=>h,fun _ _ h=>h⟩⟩
theorem v_one (h1:PS X st (UpV C t)):PSs X [st] (UpV C t):=pss_one h1
def VEnds.of (E:PEnds):VEnds:={ nx:=fun _=>E.nx,rt:=fun r _=>E.rt r,bk:=fun _=>E.bk,ct:=fun _=>E.ct }
theorem RtR.un {W:Hp} {r:Rt} {v:V} (h:RtR (C.add W) p σ F H r v):RtR C p σ F H r v:=by
 cases r with
 | rd x=>exact h
 | ro xs=>obtain ⟨y,vs,z1,z2,z3,z4,z5,z6⟩:=h;exact ⟨y,vs,z1,z2,(of_add z3).2,z4,z5,z6⟩
theorem of_le {E:PEnds}:((VEnds.of E).dn C F).Le (E.dn C F):=⟨fun _ _ ⟨W,p,G,a,k,b,c⟩=>⟨p,G,a.un k,b,c⟩,fun _ _ ⟨r,W,p,σ,G,a,k,b,c,d⟩=>⟨r,p,σ,G,a.un k,b,c.un,d⟩,fun _ _ ⟨W,p,G,a,k,b,c⟩=>⟨p,G,a.un k,b,c⟩,fun _ _ ⟨W,p,G,a,k,b,c⟩=>⟨p,G,a.un k,b,c⟩⟩
def qOfV (t:TVQ):TSQ:=fun E p=>t (VEnds.of E) Hp0 p
theorem ss_ofV {sts:List Stmt} (h:PSs X sts (UpV C t)):PSs X sts (UpS C (qOfV t)):=fun pins s σ H De I ⟨p,F,E,rs,ht,l⟩=>
 h pins s σ H De I ⟨Hp0,p,F,_,rs,.nil C,ht,of_le.trans l⟩
def UpEW (C:Pc) (t:Hp->TQ):TE:=fun σ H Q=>∃W,WOk C W/\Up (C.add W) (t W) σ H Q
def UpIW (C:Pc) (t:Hp->TIQ):TI:=fun σ H Q=>∃W,WOk C W/\UpI (C.add W) (t W) σ H Q
def UpGW (C:Pc) (t:Hp->TGQ):TG:=fun v σ H Q=>∃W,WOk C W/\UpG (C.add W) (t W) v σ H Q
theorem pe_w {t:Hp->TQ} (h:∀W,WOk C W->PE X e (Up (C.add W) (t W))):PE X e (UpEW C t):=fun pins s σ H Q I ⟨W,ok,ht⟩=>h W ok pins s σ H Q I ht
theorem pi_w {tg it:Expr} {t:Hp->TIQ} (h:∀W,WOk C W->PI X tg it (UpI (C.add W) (t W))):PI X tg it (UpIW C t):=fun pins s σ H Q I ⟨W,ok,ht⟩=>h W ok pins s σ H Q I ht
theorem pg_w {tg:Expr} {t:Hp->TGQ} (h:∀W,WOk C W->PG X tg (UpG (C.add W) (t W))):PG X tg (UpGW C t):=fun pins s σ H v u Q I r ⟨W,ok,ht⟩=>h W ok pins s σ H v u Q I r ht
def vFor (ti:Hp->TIQ) (g:Hp->TGQ) (tb:TVQ):TVQ:=fun E W p=>ti W p fun n item p1=>∃I:Nat->Hp->PSt->Prop,I 0 W p1/\(∀i W2 p2,i<n->I i W2 p2->g W2 (item i) p2 fun p3=>tb { E with nx:=I (i+1),ct:=I (i+1),bk:=E.nx } W2 p3)/\∀W2 p2,I n W2 p2->E.nx W2 p2
theorem v_for {iter tg:Expr} {body:List Stmt} {ti:Hp->TIQ} {g:Hp->TGQ} {tb:TVQ} (hp:PassesOwn (model X.prog X.w) X.A X.env X.xe) (hc:X.calm=true) (hi:∀W,WOk C W->PI X tg iter (UpI (C.add W) (ti W))) (hg:∀W,WOk C W->PG X tg (UpG (C.add W) (g W))) (hb:PSs X body (UpV C tb))
  (hs:∀x,foldedSetIterable iter X.env x=pure x:=by intro _;rfl):PS X (.For tg iter body [] pos) (UpV C (vFor ti g tb)):=
 VS.mk (ps_for hp hc (pi_w hi) (pg_w hg) hb hs) fun W p σ F H E rs ok ht=>⟨W,ok,p,F,_,rs,ht,fun J H1 ⟨n,item,p1,F1,rs1,s1,sh1,jq,I,i0,istep,iend⟩=>by
  refine ⟨fun i m σ H=>m=n - i/\i<=n/\∃W p F,RS (C.add W) p σ F H/\WOk C W/\Same F1 F/\I i W p,⟨n,by simp,Nat.zero_le _,W,p1,F1,rs1,ok,.refl _,i0⟩,?_⟩
  rintro i m σ2 H2 ⟨rfl,hi,W2,p2,F2,rs2,ok2,s2,i2⟩
  by_cases hlt:i<n
  ·refine .inr ⟨jq.go i F2 H2 rs2.sub s2 hlt,fun σ' H'=>∃W p F,RS (C.add W) p σ' F H'/\WOk C W/\Same F1 F/\I (i+1) W p,fun σ' H' h=>⟨n - (i+1),by omega,rfl,hlt,h⟩,fun x H' y=>?_⟩
   obtain ⟨F3,rs3,s3,r3⟩:=JQ.out (C:=C.add W2) jq rs2 s2 hlt y
   refine ⟨W2,ok2,p2,F3,item i,_,rs3,r3,istep i W2 p2 hlt i2,fun σ4 H4 ⟨p4,F4,rs4,s4,q4⟩=>⟨W2,p4,F4,_,rs4,ok2,q4,?_⟩⟩
   have s14:Same F1 F4:=s2.trans (s3.trans s4)
   exact ⟨fun _ _ ⟨W5,p5,F5,a,k,b,c⟩=>⟨W5,p5,F5,a,k,s14.trans b,c⟩,fun _ _ ⟨r,W5,p5,σ5,F5,a,k,b,c⟩=>⟨r,W5,p5,σ5,F5,a,k,s1.trans (s14.trans b),c⟩,fun _ _ ⟨W5,p5,F5,a,k,b,c⟩=>⟨W5,p5,F5,a,k,s1.trans (s14.trans b),c⟩,fun _ _ ⟨W5,p5,F5,a,k,b,c⟩=>⟨W5,p5,F5,a,k,s14.trans b,c⟩⟩
  ·have e:i=n:=by omega
   subst e
   exact .inl ⟨jq.stop F2 H2 rs2.sub s2,W2,p2,F2,rs2,ok2,s1.trans s2,iend W2 p2 i2⟩⟩
end
abbrev TVE:=Hp->PSt->(D->Hp->PSt->Prop)->Prop
def UpEV (C:Pc) (t:TVE):TE:=fun σ H Q=>∃W p F R,RS (C.add W) p σ F H/\WOk C W/\t W p R/\∀d v W1 p1 F1 H1,RS (C.add W1) p1 σ F1 H1->WOk C W1->Same F F1->Rep C.K F1 d v->R d W1 p1->Q v H1
section
variable {X:Cx} {C:Pc} {a b c e o k:Expr} {es:List Expr} {pos:Pos} {K:PySem.W.Frag} {p:PSt} {σ:St} {F H:Hp} {st:Stmt} {rest:List Stmt} {t u:TVQ}
def vSet (i:Nat) (t:TVE):TVQ:=fun E W p=>t W p fun d W1 p1=>nbr p1 i=true/\E.nx W1 (p1.set i (some (.d d)))
theorem v_set {i:Nat} {x:Str} {t:TVE} {pos':Pos} (hN:X.N.Nodup) (hi:X.N[i]? = some x) (hx:Loc X.env.scope x) (he:PE X e (UpEV C t)) (hs:swapsWith e (some (.Name x pos')) pos.line X.env=pure false:=by rfl) (hf:X.fn x=true\/X.env.scope.names.lookup x=some .local:=by first|exact .inl rfl|exact .inr rfl|assumption) :
  PS X (.Assign [.Name x pos'] e pos) (UpV C (vSet i t)):=
 VS.mk (ps_set hN hi hx he hs hf) fun W p σ F H E rs ok ht=>⟨W,p,F,_,rs,ok,ht,fun d v W1 p1 F1 H1 rs1 ok1 s1 r1 ⟨hn,q⟩=>⟨W1,_,F1,rs1.setD hn r1,ok1,s1,q⟩⟩
end
theorem vseq_goK {t R:TVQ} {E:VEnds} {W:Hp} {p:PSt} (h:∀k:Hp->PSt->Prop,(∀W' p',R E W' p'->k W' p')->t { E with nx:=k } W p):vSeq t R E W p:=h (R E) (fun _ _ h=>h)
theorem vfor_q {ti:Hp->TIQ} {g:Hp->TGQ} {tb:TVQ} {E:VEnds} {W:Hp} {p:PSt} {n:Nat} {item:Nat->D} {p1:PSt} (hti:∀Q:Nat->(Nat->D)->PSt->Prop,Q n item p1->ti W p Q) (I:Nat->Hp->PSt->Prop) (h0:I 0 W p1)
  (hs:∀i W2 p2,i<n->I i W2 p2->g W2 (item i) p2 fun p3=>tb { E with nx:=I (i+1),ct:=I (i+1),bk:=E.nx } W2 p3) (hd:∀W2 p2,I n W2 p2->E.nx W2 p2):vFor ti g tb E W p:=hti _ ⟨I,h0,hs,hd⟩
def kOf:D->Option Key
 | .int i=>some (.inl i)
 | .str x=>some (.inr x)
 | _=>none
def ksOf:List D->Option (List Key)
 | []=>some []
 | d::ds=>match kOf d,ksOf ds with
  | some k,some ks=>some (k::ks)
  | _,_=>none
def flaV:D->Option V
 | .int n=>some (.int n)
 | .str x=>some (.str x)
 | .non=>some .non
 | .bl b=>some (.bl b)
 | _=>none
section
variable {K:PySem.W.Frag} {F:Hp}
theorem kOf_rep {d:D} {v:V} {k:Key} (r:Rep K F d v) (h:kOf d=some k):v=kV k:=by
 cases d<;>first|(cases h;cases r;rfl)|cases h
theorem ksOf_rep:∀{ds:List D} {vs:List V} {ks:List Key},RepL K F ds vs->ksOf ds=some ks->vs=ks.map kV
 | [],_,_,.nil,h=>by cases h;rfl
 | d::ds,_,ks,.cons r t,h=>by
  unfold ksOf at h
  cases h1:kOf d with
  | none=>rw [h1] at h;cases h
  | some k=>
   cases h2:ksOf ds with
   | none=>rw [h1,h2] at h;cases h
   | some ks'=>
    rw [h1,h2] at h
    cases h
    rw [kOf_rep r h1,ksOf_rep t h2];rfl
theorem flaV_rep {d:D} {v u:V} (r:Rep K F d v) (h:flaV d=some u):v=u:=by
 cases d<;>first|(cases h;cases r;rfl)|cases h
end
section
variable {X:Cx} {C:Pc} {a b c e o k:Expr} {es:List Expr} {pos:Pos} {K:PySem.W.Frag} {p:PSt} {σ:St} {F H:Hp} {st:Stmt} {t:TVQ}
def vDicT:TVE:=fun W p Q=>∀a,W a=none->Q (.atom (.ref a)) (upd W a (.dT [])) p
theorem e_dicT:PE X (.Dict [] [] pos) (UpEV C vDicT):=fun pins s σ H Q I ⟨W,p,F,R,rs,ok,ht,hq⟩=>
 pe_dnewT pins s σ H Q I fun d hd=>by
  obtain ⟨f1,f2,f3⟩:=rs.free hd
  obtain ⟨rs2,ok2⟩:=(rs.laid (o:=.dT []) hd).takeO ok f1 f2 upd_same (.inr (.inr ⟨_,rfl⟩)) f3
  exact hq _ _ _ _ _ _ rs2 ok2 (.refl _) (.atom _) (ht d (of_add f2).1)
def vPutK (te to tk:Hp->TQ):TVQ:=fun E W p=>te W p fun ev p1=>to W p1 fun eo p2=>tk W p2 fun ek p3=>∃x kvs v k,flaV (lk p3 ev)=some v/\lk p3 eo=.atom (.ref x)/\W x=some (.dK kvs)/\kOf (lk p3 ek)=some k/\kvs.length<sizeLine/\E.nx (upd W x (.dK (putK kvs k v))) p3
def vPutT (te to tk:Hp->TQ):TVQ:=fun E W p=>te W p fun ev p1=>to W p1 fun eo p2=>tk W p2 fun ek p3=>∃x kvs v ds ks,flaV (lk p3 ev)=some v/\lk p3 eo=.atom (.ref x)/\W x=some (.dT kvs)/\lk p3 ek=.tup ds/\ksOf ds=some ks/\kvs.length<sizeLine/\E.nx (upd W x (.dT (putK kvs ks v))) p3
theorem ev_flat {e1:Ev} {v u:V} (er:EvR C.K p σ F e1 v) (h:flaV (lk p e1)=some u):v=u:=by
 cases e1 with
 | fz x=>exact flaV_rep er h
 | ow i=>
  obtain ⟨⟨s,h1,m⟩,h2⟩:=er
  have el:lk p (.ow i)=s.val:=by show (match p[i]? with|some (some s)=>s.val|_=>.non)=_;rw [h1]
  rw [el] at h
  cases s<;>first|(cases m;done)|(cases h;done)
theorem ev_key {e1:Ev} {v:V} {k:Key} (er:EvR C.K p σ F e1 v) (h:kOf (lk p e1)=some k):v=kV k:=by
 cases e1 with
 | fz x=>exact kOf_rep er h
 | ow i=>
  obtain ⟨⟨s,h1,m⟩,h2⟩:=er
  have el:lk p (.ow i)=s.val:=by show (match p[i]? with|some (some s)=>s.val|_=>.non)=_;rw [h1]
  rw [el] at h
  cases s<;>first|(cases m;done)|(cases h;done)
theorem v_putK {te to tk:Hp->TQ} {pt:Pos} (hu:X.A.units+64<cLine) (he:∀W,WOk C W->PE X e (Up (C.add W) (te W))) (ho:∀W,WOk C W->PE X o (Up (C.add W) (to W))) (hk:∀W,WOk C W->PE X k (Up (C.add W) (tk W)))
  (hs:swapsWith e (some (.Subscript o k pt)) pos.line X.env=pure false:=by rfl):PS X (.Assign [.Subscript o k pt] e pos) (UpV C (vPutK te to tk)):=
 VS.mk (ps_dput (by omega) (pe_w ho) (pe_w hk) (pe_w he) hs) fun W p σ F H E rs ok ht=>⟨W,ok,up1 rs ht fun e1 p1 v1 F1 H1 rs1 s1 sh1 er1 ht=>
  ⟨W,ok,up1 rs1 ht fun e2 p2 v2 F2 H2 rs2 s2 sh2 er2 ht=>⟨W,ok,up1 rs2 ht fun e3 p3 v3 F3 H3 rs3 s3 sh3 er3 ⟨x,kvs,v,k,g1,g2,g3,g4,g5,q⟩=>by
   rw [ev_key er3 g4,ev_atom (er2.mono s3 sh3) g2,ev_flat ((er1.mono s2 sh2).mono s3 sh3) g1]
   obtain ⟨rs4,ok4⟩:=rs3.wputO (us:=.dK (putK kvs k v)) ok g3 (.inr (.inl ⟨_,rfl⟩))
   exact ⟨x,_,rfl,DPut.k (rs3.wH ok g3) g5,_,p3,F3,rs4,ok4,s1.trans (s2.trans s3),q⟩⟩⟩⟩
theorem v_putT {te to tk:Hp->TQ} {pt:Pos} (hu:X.A.units+64<cLine) (he:∀W,WOk C W->PE X e (Up (C.add W) (te W))) (ho:∀W,WOk C W->PE X o (Up (C.add W) (to W))) (hk:∀W,WOk C W->PE X k (Up (C.add W) (tk W)))
  (hs:swapsWith e (some (.Subscript o k pt)) pos.line X.env=pure false:=by rfl):PS X (.Assign [.Subscript o k pt] e pos) (UpV C (vPutT te to tk)):=
 VS.mk (ps_dput (by omega) (pe_w ho) (pe_w hk) (pe_w he) hs) fun W p σ F H E rs ok ht=>⟨W,ok,up1 rs ht fun e1 p1 v1 F1 H1 rs1 s1 sh1 er1 ht=>
  ⟨W,ok,up1 rs1 ht fun e2 p2 v2 F2 H2 rs2 s2 sh2 er2 ht=>⟨W,ok,up1 rs2 ht fun e3 p3 v3 F3 H3 rs3 s3 sh3 er3 ⟨x,kvs,v,ds,ks,g1,g2,g3,g4,g5,g6,q⟩=>by
   obtain ⟨a3,vs,rfl,hq,hr⟩:=ev_tup rs3 er3 g4
   have e5:=ksOf_rep hr g5
   subst e5
   rw [ev_atom (er2.mono s3 sh3) g2,ev_flat ((er1.mono s2 sh2).mono s3 sh3) g1]
   obtain ⟨rs4,ok4⟩:=rs3.wputO (us:=.dT (putK kvs ks v)) ok g3 (.inr (.inr ⟨_,rfl⟩))
   exact ⟨x,_,rfl,DPut.t (rs3.wH ok g3) hq g6,_,p3,F3,rs4,ok4,s1.trans (s2.trans s3),q⟩⟩⟩⟩
variable {tas:TAQ} {apos ps:Pos}
end
end L2
set_option maxHeartbeats 400000
namespace L2
open PySem PySem.Spec PyProof.Rows
section
variable {prog:Program} {w:World} {K:Type} [DecidableEq K] {knd:HeapKind prog w K} {A:Around} {E:Value->Shared->Prop} {s:Shared}
theorem meetsT_len {d:Addr} (hd:(d == sysModules)=false) :
  MeetsIn prog w (Builtin.«dict.__len__» ⟨[.ref d],[]⟩) (fun _ R s=>∃xs,s.heap.DictOfH knd d xs/\R (.ok (.ret (.int xs.length s.toks))) { s with toks:=s.toks+1 }):=
 .of_wp fun A R s ⟨kvs,hm,h⟩=>by
  obtain ⟨o,es,ep,ho,hc,hdat,hk,hp,hn⟩:=hm
  show wpAny _ _ (dictSize d >>= _) _ _ s
  unfold dictSize
  refine wpAny_bind (wpAny_bind (wpAny_dictEntries ho hdat (wpAny_pure ?_)))
  show wpAny _ _ (Builtin.Dict.pendingCount d >>= _) _ _ s
  refine wpAny_bind (wpAny_pendingCount_other hd ?_)
  refine wpAny_ret_mkInt ?_
  have:es.size=kvs.length:=by rw [<-Array.length_toList,hk,List.length_map]
  rw [Nat.add_zero,this];exact h
theorem call_len_dictT {d:Addr} {xs:List (K × Addr × Value)} {Q:Value->Shared->Prop} (hd:(d == sysModules)=false) (hm:s.heap.DictOfH knd d xs) (hfit:(xs.length:Int)<2 ^ 63)
  (h:Q (.int xs.length (s.toks+1)) { s with toks:=s.toks+1+1 }):wpAny (model prog w) A (call (.builtin "len") [.ref d]) Q E s:=by
 refine Calls.call_function_entry kind_len plain_len entry_len (args_len1 _) ?_
 have hT:s.TypeIs (.ref d) "dict":=by
  obtain ⟨o,es,ep,ho,hc,_⟩:=hm
  exact ⟨o,ho,hc.1⟩
 unfold Builtin.«len»
 refine wpAny_bind (m:=oneArg "len" _) (wpAny_pure ?_)
 refine wpAny_bind (m:=callSpecial? (.ref d) (Str.ofString "__len__")) (wpAny_callSpecial?_slot (name:=Str.ofString "__len__") hT F.slot_dict_len
  (call_meetsIn F.slot_dict_len hT F.entry_dict_len (F.args_dict_len_1 _) (meetsT_len (knd:=knd) hd) ⟨xs,hm,?_⟩))
 show wpAny _ _ _ _ _ { s with toks:=s.toks+1 }
 refine wpAny_bind (wpAny_holding (wpAny_pure ?_))
 refine wpAny_bind (wpAny_letGo ?_)
 show wpAny _ _ (if ((xs.length:Nat):Int)<0 then _ else _) _ _ _
 rw [if_neg (by omega)]
 show wpAny _ _ (if ((xs.length:Nat):Int)>=2 ^ 63 then _ else _) _ _ _
 rw [if_neg (by omega)]
 exact wpAny_bind (wpAny_mkInt (wpAny_pure ⟨_,rfl,h⟩))
end
section
variable {X:Cx} {C:Pc} {W:Hp} {a b e:Expr} {ta tb:TQ} {tas:TAQ} {pos ps:Pos} {p:PSt} {σ:St} {F H:Hp}
theorem call_lenT:CallR X (.builtin "len") (fun xs H Q=>∃a kvs,xs=[.ref a]/\H a=some (.dT kvs)/\Q (.int kvs.length) H):=by
 intro pins s σ H xs us Q I r h
 obtain ⟨a,kvs,rfl,e,q⟩:=h
 obtain ⟨u,rfl,rx⟩:=vals1 r
 cases rx
 obtain ⟨z,hd,xs,rel,dd⟩:=dt_of I.hok e
 have hl:kvs.length=xs.length:=Paired.length rel
 refine call_len_dictT hd dd (by rw [<-hl];rw [sizeLine_eq] at z;omega) ?_
 rw [<-hl]
 exact ⟨.int kvs.length,H,I.tok _,⟨_,rfl⟩,q⟩
def qLenT (W:Hp) (ta:TAQ):TQ:=fun p Q=>ta p fun es p1=>∃e x kvs,es=[e]/\lk p1 e=.atom (.ref x)/\W x=some (.dT kvs)/\Q (.fz (.int (kvs.length:Int))) p1
theorem cb_lenT (ok:WOk C W) (hg:Gl X "len") (hm:X.mg "len"=none) (ha:PA X [e] (UpA (C.add W) tas)) (he:starEach [e] X.env=(false,eval e X.env)::starEach [] X.env:=by rfl):PE X (.Call (.Name "len" ps) [e] [] pos) (Up (C.add W) (qLenT W tas)):=
 QE.mk (pe_callB call_lenT hg hm (by kernel_rfl) ha (he:=he)) fun p σ F H R rs ht=>upA1 rs ht fun es1 p1 vs1 F1 H1 rs1 s1 sh er1 ⟨e1,x,kvs,h1,h2,h3,q⟩=>by
  obtain ⟨v,rfl,er⟩:=evs1 er1 h1
  exact ⟨x,kvs,by rw [ev_atom er h2],rs1.wH ok h3,fin_ev rs1 s1 sh (.int _) q⟩
def qInT (W:Hp) (ta tb:TQ):TQ:=fun p Q=>ta p fun e1 p1=>tb p1 fun e2 p2=>∃ds ks x kvs,lk p2 e1=.tup ds/\ksOf ds=some ks/\lk p2 e2=.atom (.ref x)/\W x=some (.dT kvs)/\Q (.fz (.bl (valV kvs ks).isSome)) p2
theorem tin_low {R:Ev->PSt->Prop} {G:V->Hp->Prop} (ok:WOk C W) (rs:RS (C.add W) p σ F H) (ht:ta p fun e1 p1=>tb p1 fun e2 p2=>∃ds ks x kvs,lk p2 e1=.tup ds/\ksOf ds=some ks/\lk p2 e2=.atom (.ref x)/\W x=some (.dT kvs)/\R (.fz (.bl (valV kvs ks).isSome)) p2)
  (k:∀(b:Bool) p1 F1 H1,RS (C.add W) p1 σ F1 H1->Same F F1->Shp p p1->R (.fz (.bl b)) p1->G (.bl b) H1):tDIn (Up (C.add W) ta) (Up (C.add W) tb) σ H G:=
 up2 rs ht fun e1 e2 p1 v1 v2 F1 H1 rs1 s1 sh er1 er2 ⟨ds,ks,x,kvs,h1,h2,h3,h4,q⟩=>by
  obtain ⟨a3,us,rfl,hq,hr⟩:=ev_tup rs1 er1 h1
  have e5:=ksOf_rep hr h2
  subst e5
  rw [ev_atom er2 h3]
  exact ⟨x,_,rfl,DGet.t (rs1.wH ok h4) hq,k _ p1 F1 H1 rs1 s1 sh q⟩
theorem q_inT (ok:WOk C W) (hu:X.A.units+64<cLine) (ha:PE X a (Up (C.add W) ta)) (hb:PE X b (Up (C.add W) tb)) (hm:behindInMarks .In b=false:=by rfl):PE X (.Compare a [.In] [b] pos) (Up (C.add W) (qInT W ta tb)):=
 QE.mk (pe_cmp (pc_din (by omega) ha hb) hm) fun p σ F H R rs ht=>tin_low ok rs ht fun b p1 F1 H1 rs1 s1 sh q=>fin_ev rs1 s1 sh (.bl _) q
theorem t_inT (ok:WOk C W) (hu:X.A.units+64<cLine) (ha:PE X a (Up (C.add W) ta)) (hb:PE X b (Up (C.add W) tb)) (hm:behindInMarks .In b=false:=by rfl):PT X (.Compare a [.In] [b] pos) (UpT (C.add W) (qTest (qInT W ta tb))):=
 QT.mk (pt_cmp (pc_din (by omega) ha hb) hm) fun p σ F H R rs ht=>tin_low (R:=fun e p1=>∃b,lk p1 e=.bl b/\R b p1) ok rs ht fun b p1 F1 H1 rs1 s1 sh ⟨k,hk,q⟩=>⟨k,by cases hk;rfl,p1,F1,rs1,s1,sh,q⟩
end
section
variable {X:Cx} {C:Pc} {K:PySem.W.Frag} {pos:Pos}
def gTupL (K:PySem.W.Frag) (n:Nat) (t:TGs):TG:=fun v σ H Q=>∃a xs,v=.ref a/\SqL K H a xs/\xs.length=n/\t xs σ H Q
theorem pg_tupL {es:List Expr} {k:Nat} {t:TGs} {n:Nat} (hK:X.K=K) (hc:X.calm=true) (h:PGs X es t)
  (hn:(assignEach es X.env).length=n:=by rfl) (hst:(assignEach es X.env).findIdx? (·.1)=none:=by rfl):PG X (.Tuple es k pos) (gTupL K n t):=by
 subst hK
 intro pins s σ H v u Q I r hw
 obtain ⟨a,xs,e1,hq,hl,hw⟩:=hw
 subst e1
 cases r
 obtain ⟨its,rv,ht,hz⟩:=I.list hq
 have hsz:(assignEach es X.env).length=its.toArray.size:=by simp [hn,<-hl,rv.length]
 rw [assign_Tuple]
 refine wpAny_bind (wpAny_standAt ?_)
 unfold unpack
 rw [hsz,hst]
 refine wpAny_bind (wpAny_holding (PySem.W.kun_itemsOf (I.ok.hd hc) ht.isList fun h' hx=>?_))
 have I1:Inv X pins σ H { s with heap:=h' }:=I.kept (t':=s.toks) fun b o e=>hx b o (Nat.ne_of_lt (Heap.lt_size e)) e
 exact h pins _ σ H xs _ Q I1 (by simpa using rv) hw
def gqTupL (n:Nat) (gs:TGsQ):TGQ:=fun x p Q=>∃xs,x=.lst xs/\xs.length=n/\gs xs p Q
theorem g_tupL {es:List Expr} {k:Nat} {gs:TGsQ} {n:Nat} (hK:X.K=C.K) (hc:X.calm=true) (h:PGs X es (UpGs C gs)) (hn:(assignEach es X.env).length=n:=by rfl) (hst:(assignEach es X.env).findIdx? (·.1)=none:=by rfl):PG X (.Tuple es k pos) (UpG C (gqTupL n gs)):=
 QG.mk (pg_tupL hK hc h hn hst) fun p σ F H x v R rs rx ⟨xs,hx,hl,q⟩=>by
  subst hx
  cases rx with
  | lst q1 r1=>exact ⟨_,_,rfl,.of (rs.sub _ _ q1),by rw [<-r1.length];exact hl,p,F,xs,R,rs,r1,q,fun _ _ h=>h⟩
end
end L2
namespace M
def val (b:Int) (ds:List Int):Int:=ds.foldl (fun n d=>n * b+d) 0
theorem foldl_val (b:Int):∀(ds:List Int) (a:Int),ds.foldl (fun n d=>n * b+d) a=a * b ^ ds.length+val b ds
 | [],a=>by simp [val]
 | d::r,a=>by
  have h1:=foldl_val b r (a * b+d)
  have h2:=foldl_val b r (0 * b+d)
  show r.foldl _ (a * b+d)=a * b ^ (r.length+1)+r.foldl _ (0 * b+d)
  rw [h1,h2,Int.pow_succ]
  generalize b ^ r.length=p
  generalize val b r=v
  rw [Int.add_mul,Int.add_mul,Int.mul_assoc a b p,Int.mul_comm b p]
  omega
theorem val_cons (b d:Int) (r:List Int):val b (d::r)=d * b ^ r.length+val b r:=by
 show r.foldl _ (0 * b+d)=_
 rw [foldl_val]
 simp
theorem val_snoc (b d:Int) (xs:List Int):val b (xs++[d])=val b xs * b+d:=by
 unfold val
 rw [List.foldl_append]
 rfl
def terms (b:Int):List Int->List Int
 | []=>[]
 | d::r=>d * b ^ r.length::terms b r
def le (b:Int):List Int->Int
 | []=>0
 | d::r=>d+b * le b r
theorem val_rev (b:Int):∀rs:List Int,val b rs.reverse=le b rs
 | []=>rfl
 | d::r=>by
  rw [List.reverse_cons,val_snoc,val_rev b r]
  show le b r * b+d=d+b * le b r
  rw [Int.mul_comm];omega
theorem le_snoc (b x:Int):∀rs:List Int,le b (rs++[x])=le b rs+x * b ^ rs.length
 | []=>by simp [le]
 | d::r=>by
  show d+b * le b (r++[x])=d+b * le b r+x * b ^ (r.length+1)
  rw [le_snoc b x r,Int.pow_succ,Int.mul_add]
  generalize b ^ r.length=p
  have:b * (x * p)=x * (p * b):=by rw [Int.mul_comm p b,<-Int.mul_assoc,<-Int.mul_assoc,Int.mul_comm b x]
  omega
theorem pow_pos' {b:Int} (h:0<b) (n:Nat):0<b ^ n:=Int.pow_pos h
theorem pow_ge_two {b:Int} (h:2<=b):∀n:Nat,(2:Int) ^ n<=b ^ n
 | 0=>by simp
 | n+1=>by
  rw [Int.pow_succ,Int.pow_succ]
  have q:=pow_ge_two h n
  have p:=pow_pos' (show (0:Int)<2 by decide) n
  exact Int.mul_le_mul q h (by decide) (by omega)
theorem pow_mono2 {m n:Nat} (h:m<=n):(2:Int) ^ m<=2 ^ n:=by
 obtain ⟨k,rfl⟩:=Nat.exists_eq_add_of_le h
 rw [Int.pow_add]
 have p:=pow_pos' (show (0:Int)<2 by decide) m
 have q:=pow_pos' (show (0:Int)<2 by decide) k
 have:(2:Int) ^ m * 1<=2 ^ m * 2 ^ k:=Int.mul_le_mul_of_nonneg_left (by omega) (by omega)
 omega
structure Digs (b n:Int) (ds:List Int):Prop where
 rng:∀d∈ds,0<=d/\d<b
 val:val b ds=n
 ne:ds≠[]
 hd:ds.length=1\/ds.head?≠some 0
theorem le_nn {b:Int} (h:0<=b):∀{rs:List Int},(∀d∈rs,0<=d/\d<b)->0<=le b rs
 | [],_=>Int.le_refl _
 | d::r,hr=>by
  have h1:=(hr d List.mem_cons_self).1
  have h2:=le_nn h (rs:=r) fun x hx=>hr x (List.mem_cons_of_mem _ hx)
  have:=Int.mul_nonneg h h2
  show 0<=d+b * le b r
  omega
structure Go2 (b n:Int) (rs:List Int) (left:Int):Prop where
 b2:2<=b
 rng:∀d∈rs,0<=d/\d<b
 l0:0<=left
 sum:n=le b rs+left * b ^ rs.length
 pos:rs=[]\/0<left
theorem Go2.start {b n:Int} (hb:2<=b) (hn:0<=n):Go2 b n [] n:=⟨hb,fun d hd=>absurd hd List.not_mem_nil,hn,by simp [le],.inl rfl⟩
theorem Go2.turn {b n left:Int} {rs:List Int} (g:Go2 b n rs left) (h:b<=left):Go2 b n (rs++[left % b]) (left / b) where
 b2:=g.b2
 rng:=fun d hd=>by
  have hb:=g.b2
  rcases List.mem_append.mp hd with hd|hd
  ·exact g.rng d hd
  ·rw [List.mem_singleton] at hd
   subst hd
   exact ⟨Int.emod_nonneg _ (by omega),Int.emod_lt_of_pos _ (by omega)⟩
 l0:=Int.ediv_nonneg g.l0 (by have:=g.b2;omega)
 sum:=by
  have h1:=g.sum
  have h2:=Int.mul_ediv_add_emod left b
  rw [le_snoc,List.length_append,List.length_singleton,Int.pow_succ,h1]
  generalize b ^ rs.length=p at *
  have e:left * p=(left % b) * p+(left / b) * (p * b):=by
   have:left * p=(b * (left / b)+left % b) * p:=by rw [h2]
   rw [this,Int.add_mul,Int.mul_comm p b,<-Int.mul_assoc,Int.mul_comm (left / b) b]
   omega
  omega
 pos:=.inr (by
  have hb:=g.b2
  have:=Int.ediv_le_ediv (show 0<b by omega) h
  rw [Int.ediv_self (by omega)] at this
  omega)
theorem Go2.len {b n left:Int} {rs:List Int} (g:Go2 b n rs left) (hn:n<2 ^ 4000):rs.length<4000:=by
 rcases g.pos with z|z
 ·rw [z];decide
 have h1:=g.sum
 have hb:=g.b2
 have h2:=le_nn (by omega) g.rng
 have p:=pow_pos' (show 0<b by omega) rs.length
 have h3:1 * b ^ rs.length<=left * b ^ rs.length:=Int.mul_le_mul_of_nonneg_right (by omega) (by omega)
 have h4:=pow_ge_two hb rs.length
 by_cases z:rs.length<4000
 ·exact z
 ·have:=pow_mono2 (show 4000<=rs.length by omega)
  generalize (2:Int) ^ 4000=q at *
  omega
theorem Go2.done {b n left:Int} {rs:List Int} (g:Go2 b n rs left) (h:left<b):Digs b n (rs++[left]).reverse where
 rng:=fun d hd=>by
  rcases List.mem_append.mp (List.mem_reverse.mp hd) with hd|hd
  ·exact g.rng d hd
  ·rw [List.mem_singleton] at hd;subst hd;exact ⟨g.l0,h⟩
 val:=by rw [val_rev,le_snoc];exact g.sum.symm
 ne:=by simp
 hd:=by
  rcases g.pos with z|z
  ·exact .inl (by rw [z];rfl)
  ·refine .inr ?_
   rw [List.reverse_append]
   simp
   omega
theorem val_mod {b:Int} {xs:List Int} {d:Int} (h:0<=d/\d<b):val b (xs++[d]) % b=d/\val b (xs++[d]) / b=val b xs:=by
 rw [val_snoc]
 have hb:0<b:=by omega
 constructor
 ·rw [Int.add_comm,Int.add_mul_emod_self_right,Int.emod_eq_of_lt h.1 h.2]
 ·rw [Int.add_comm,Int.add_mul_ediv_right _ _ (by omega),Int.ediv_eq_zero_of_lt h.1 h.2,Int.zero_add]
theorem val_nn {b:Int} (hb:0<=b) {xs:List Int} (h:∀d∈xs,0<=d/\d<b):0<=val b xs:=by
 have:=le_nn hb (rs:=xs.reverse) fun d hd=>h d (List.mem_reverse.mp hd)
 rw [<-val_rev,List.reverse_reverse] at this
 exact this
theorem Digs.uniq {b:Int} (hb:2<=b):∀(k:Nat) {n:Int} {xs ys:List Int},xs.length=k->Digs b n xs->Digs b n ys->xs=ys:=by
 intro k
 induction k with
 | zero=>intro n xs ys hk hx _;exact absurd (List.length_eq_zero_iff.mp hk) hx.ne
 | succ k ih=>
  intro n xs ys hk hx hy
  have ex:=List.dropLast_concat_getLast hx.ne
  have ey:=List.dropLast_concat_getLast hy.ne
  generalize xs.dropLast=us at ex
  generalize ys.dropLast=vs at ey
  generalize xs.getLast hx.ne=p at ex
  generalize ys.getLast hy.ne=q at ey
  subst ex ey
  have hp:=hx.rng p (by simp)
  have hq:=hy.rng q (by simp)
  have m1:=val_mod (xs:=us) hp
  have m2:=val_mod (xs:=vs) hq
  have e1:=hx.val
  have e2:=hy.val
  rw [e1] at m1
  rw [e2] at m2
  have epq:p=q:=m1.1.symm.trans m2.1
  have ev:M.val b us=M.val b vs:=m1.2.symm.trans m2.2
  subst epq
  have fst:∀(ws:List Int),(ws++[p]).length=1\/(ws++[p]).head?≠some 0->(∀d∈ws,0<=d/\d<b)->ws≠[]->0<M.val b ws:=by
   intro ws h hr hw
   match ws,hw with
   | w::r,_=>
    have h0:w≠0:=by
     rcases h with z|z
     ·simp at z
     ·simpa using z
    have hw':=hr w List.mem_cons_self
    rw [val_cons]
    have p1:=pow_pos' (show 0<b by omega) r.length
    have p2:=val_nn (show 0<=b by omega) (xs:=r) fun d hd=>hr d (List.mem_cons_of_mem _ hd)
    have p3:1 * b ^ r.length<=w * b ^ r.length:=Int.mul_le_mul_of_nonneg_right (by omega) (by omega)
    omega
  have ru:∀d∈us,0<=d/\d<b:=fun d hd=>hx.rng d (List.mem_append_left _ hd)
  have rv:∀d∈vs,0<=d/\d<b:=fun d hd=>hy.rng d (List.mem_append_left _ hd)
  by_cases hu:us=[]
  ·by_cases hv:vs=[]
   ·rw [hu,hv]
   ·have:=fst vs hy.hd rv hv
    rw [hu] at ev
    have z:M.val b []=0:=rfl
    omega
  ·by_cases hv:vs=[]
   ·have:=fst us hx.hd ru hu
    rw [hv] at ev
    have z:M.val b []=0:=rfl
    omega
   ·have lu:us.length=k:=by rw [List.length_append,List.length_singleton] at hk;omega
    have hd':∀(ws:List Int),ws≠[]->((ws++[p]).length=1\/(ws++[p]).head?≠some 0)->ws.length=1\/ws.head?≠some 0:=by
     intro ws hw h
     match ws,hw with
     | w::r,_=>
      refine .inr ?_
      rcases h with z|z
      ·simp at z
      ·simpa using z
    rw [ih lu ⟨ru,rfl,hu,hd' us hu hx.hd⟩ ⟨rv,ev.symm,hv,hd' vs hv hy.hd⟩]
theorem Digs.pos {b n:Int} {ds:List Int} (d:Digs b n ds) (hn:0<n):ds.head?≠some 0:=by
 rcases d.hd with z|z
 ·match ds,z,d with
  | [x],_,d=>
   have h:(0:Int) * b+x=n:=d.val
   intro e
   have:x=0:=by simpa using e
   omega
 ·exact z
def fgN (b n:Nat):List Int:=if h:n<b\/b<2 then [(n:Int)] else fgN b (n / b)++[((n % b:Nat):Int)]
termination_by n
decreasing_by exact Nat.div_lt_self (by omega) (by omega)
def fg (b n:Int):List Int:=fgN b.toNat n.toNat
theorem fgN_digs (b:Nat) (hb:2<=b):∀n:Nat,Digs (b:Int) (n:Int) (fgN b n):=by
 intro n
 induction n using Nat.strongRecOn with
 | ind n ih=>
  unfold fgN
  by_cases h:n<b\/b<2
  ·rw [dif_pos h]
   refine ⟨fun d hd=>?_,?_,by simp,.inl rfl⟩
   ·rw [List.mem_singleton] at hd;subst hd;omega
   ·show (0:Int) * b+n=n;omega
  ·rw [dif_neg h]
   have hlt:n / b<n:=Nat.div_lt_self (by omega) (by omega)
   have d:=ih (n / b) hlt
   have hpos:0<n / b:=Nat.div_pos (by omega) (by omega)
   refine ⟨fun x hx=>?_,?_,by simp,.inr ?_⟩
   ·rcases List.mem_append.mp hx with hx|hx
    ·exact d.rng x hx
    ·rw [List.mem_singleton] at hx;subst hx
     have:=Nat.mod_lt n (show 0<b by omega)
     omega
   ·rw [val_snoc,d.val]
    have:=Nat.div_add_mod n b
    have e:((n / b:Nat):Int) * (b:Int)+((n % b:Nat):Int)=((n / b * b+n % b:Nat):Int):=by push_cast;rfl
    rw [e]
    congr 1
    rw [Nat.mul_comm];exact this
   ·have h1:=d.pos (by omega)
    match hq:fgN b (n / b),d.ne,h1 with
    | x::r,_,h1=>simpa using h1
theorem fg_digs {b n:Int} (hb:2<=b) (hn:0<=n):Digs b n (fg b n):=by
 have h:=fgN_digs b.toNat (by omega) n.toNat
 have e1:((b.toNat:Nat):Int)=b:=by omega
 have e2:((n.toNat:Nat):Int)=n:=by omega
 rw [e1,e2] at h
 exact h
theorem Digs.fg {b n:Int} {ds:List Int} (hb:2<=b) (hn:0<=n) (d:Digs b n ds):ds=fg b n:=Digs.uniq hb _ rfl d (fg_digs hb hn)
theorem Digs.nn {b n:Int} {ds:List Int} (hb:2<=b) (d:Digs b n ds):0<=n:=by
 have:=val_nn (show 0<=b by omega) d.rng
 rw [d.val] at this;exact this
theorem val_lt {b:Int} (hb:1<=b):∀{ds:List Int},(∀d∈ds,0<=d/\d<b)->val b ds<b ^ ds.length
 | [],_=>by show (0:Int)<b ^ 0;simp
 | d::r,h=>by
  have h1:=h d List.mem_cons_self
  have ih:=val_lt hb (ds:=r) fun x hx=>h x (List.mem_cons_of_mem _ hx)
  rw [val_cons,List.length_cons,Int.pow_succ]
  have p:=pow_pos' (show 0<b by omega) r.length
  have:(d+1) * b ^ r.length<=b * b ^ r.length:=Int.mul_le_mul_of_nonneg_right (by omega) (by omega)
  rw [Int.add_mul,Int.one_mul,Int.mul_comm b] at this
  omega
theorem Digs.lt {b n:Int} {ds:List Int} (hb:2<=b) (d:Digs b n ds):n<b ^ ds.length:=by rw [<-d.val];exact val_lt (by omega) d.rng
theorem Digs.ge {b n:Int} {ds:List Int} (hb:2<=b) (d:Digs b n ds) (hn:0<n):b ^ (ds.length - 1)<=n:=by
 have h:=d.pos hn
 have v:=d.val
 match ds,d.ne,h,d.rng,v with
 | x::r,_,h,rng,v=>
  have hx:=rng x List.mem_cons_self
  have x0:x≠0:=by simpa using h
  have hr:=val_nn (show 0<=b by omega) (xs:=r) fun y hy=>rng y (List.mem_cons_of_mem _ hy)
  rw [val_cons] at v
  show b ^ (r.length+1 - 1)<=n
  rw [Nat.add_sub_cancel]
  have p:=pow_pos' (show 0<b by omega) r.length
  have:1 * b ^ r.length<=x * b ^ r.length:=Int.mul_le_mul_of_nonneg_right (by omega) (by omega)
  omega
def Big:Int:=2 ^ 4000
theorem big_def:Big=2 ^ 4000:=rfl
theorem fg_len {b n:Int} (hb:2<=b) (hn:0<=n) (h:n<Big):(fg b n).length<=4001:=by
 have d:=fg_digs hb hn
 rw [big_def] at h
 by_cases z:0<n
 ·have g:=d.ge hb z
  by_cases q:(fg b n).length<=4001
  ·exact q
  ·have h1:=pow_ge_two hb ((fg b n).length - 1)
   have h2:=pow_mono2 (show 4000<=(fg b n).length - 1 by omega)
   generalize (2:Int) ^ 4000=w at *
   omega
 ·have e:n=0:=by omega
  subst e
  have:fg b 0=[0]:=by
   unfold fg fgN
   rw [dif_pos (by left;show (0:Int).toNat<b.toNat;omega)]
   rfl
  rw [this];decide
theorem fg_pos {b n:Int} (hb:2<=b) (hn:0<=n):0<(fg b n).length:=List.length_pos_iff.mpr (fg_digs hb hn).ne
def mir (b n:Int):Bool:=decide (fg b n=(fg b n).reverse)
theorem fg_zero {b:Int} (hb:2<=b):fg b 0=[0]:=by
 unfold fg fgN
 rw [dif_pos (by left;show (0:Int).toNat<b.toNat;omega)]
 rfl
theorem fg_small {b n:Int} (hn:0<=n) (h:n<b):fg b n=[n]:=by
 unfold fg fgN
 rw [dif_pos (by left;omega)]
 congr 1;omega
theorem mir_small {b n:Int} (hn:0<=n) (h:n<b):mir b n=true:=by
 unfold mir
 rw [fg_small hn h];exact decide_eq_true rfl
theorem big_40 {n:Int} (h:n<=10 ^ 40):n<Big:=by
 rw [big_def]
 have:(10:Int) ^ 40<2 ^ 4000:=by decide +kernel
 omega
theorem val_app (b:Int) (xs ys:List Int):val b (xs++ys)=val b xs * b ^ ys.length+val b ys:=by
 show (xs++ys).foldl _ 0=_
 rw [List.foldl_append]
 exact foldl_val b ys _
theorem pow1 (b:Int):b ^ 1=b:=by rw [Int.pow_succ,Int.pow_zero,Int.one_mul]
def ln (b n:Int):Nat:=(fg b n).length
theorem pow_le {b:Int} (hb:1<=b) {m n:Nat} (h:m<=n):b ^ m<=b ^ n:=by
 obtain ⟨k,rfl⟩:=Nat.exists_eq_add_of_le h
 rw [Int.pow_add]
 have p:=pow_pos' (show 0<b by omega) m
 have q:=pow_pos' (show 0<b by omega) k
 have:b ^ m * 1<=b ^ m * b ^ k:=Int.mul_le_mul_of_nonneg_left (by omega) (by omega)
 omega
theorem pow_lt {b:Int} (hb:2<=b) {m n:Nat} (h:m<n):b ^ m<b ^ n:=by
 have h1:=pow_le (b:=b) (by omega) (show m+1<=n by omega)
 rw [Int.pow_succ] at h1
 have p:=pow_pos' (show 0<b by omega) m
 have:b ^ m * 2<=b ^ m * b:=Int.mul_le_mul_of_nonneg_left hb (by omega)
 omega
theorem ln_ge {b n:Int} (hb:2<=b) (hn:1<=n):b ^ (ln b n - 1)<=n:=(fg_digs hb (by omega)).ge hb (by omega)
theorem ln_lt {b n:Int} (hb:2<=b) (hn:0<=n):n<b ^ (ln b n):=(fg_digs hb hn).lt hb
theorem ln_pos {b n:Int} (hb:2<=b) (hn:0<=n):1<=ln b n:=fg_pos hb hn
theorem ln_of {b n:Int} (hb:2<=b) {L:Nat} (hL:1<=L) (h1:b ^ (L - 1)<=n) (h2:n<b ^ L):ln b n=L:=by
 have p:=pow_pos' (show 0<b by omega) (L - 1)
 have g1:=ln_ge hb (show 1<=n by omega)
 have g2:=ln_lt hb (show 0<=n by omega)
 have g3:=ln_pos hb (show 0<=n by omega)
 by_cases h:ln b n<L
 ·have:=pow_le (b:=b) (by omega) (show ln b n<=L - 1 by omega)
  omega
 ·by_cases h':L<ln b n
  ·have:=pow_le (b:=b) (by omega) (show L<=ln b n - 1 by omega)
   omega
  ·omega
theorem ln_mono {b m n:Int} (hb:2<=b) (hm:0<=m) (h:m<=n):ln b m<=ln b n:=by
 by_cases hz:m=0
 ·subst hz
  have:ln b 0=1:=by unfold ln;rw [fg_zero hb];rfl
  have:=ln_pos hb (show 0<=n by omega)
  omega
 have g1:=ln_ge hb (show 1<=m by omega)
 have g2:=ln_lt hb (show 0<=n by omega)
 by_cases q:ln b m<=ln b n
 ·exact q
 ·have:=pow_le (b:=b) (by omega) (show ln b n<=ln b m - 1 by omega)
  omega
def hf (L:Nat):Nat:=(L+1) / 2
theorem front_val {b n:Int} {ds:List Int} (hb:2<=b) (d:Digs b n ds) (j:Nat) (hj:j<=ds.length):n / b ^ j=val b (ds.take (ds.length - j))/\n=val b (ds.take (ds.length - j)) * b ^ j+val b (ds.drop (ds.length - j)):=by
 have e:ds=ds.take (ds.length - j)++ds.drop (ds.length - j):=(List.take_append_drop _ _).symm
 have hv:=d.val
 rw [e,val_app] at hv
 have hl:(ds.drop (ds.length - j)).length=j:=by rw [List.length_drop];omega
 rw [hl] at hv
 have r:∀x∈ds.drop (ds.length - j),0<=x/\x<b:=fun x hx=>d.rng x (List.mem_of_mem_drop hx)
 have v0:=val_nn (show 0<=b by omega) r
 have v1:=val_lt (show 1<=b by omega) r
 rw [hl] at v1
 have p:=pow_pos' (show 0<b by omega) j
 refine ⟨?_,hv.symm⟩
 rw [<-hv,Int.add_comm,Int.add_mul_ediv_right _ _ (by omega),Int.ediv_eq_zero_of_lt v0 v1,Int.zero_add]
theorem take_digs {b n:Int} {ds:List Int} (hb:2<=b) (d:Digs b n ds) (hn:1<=n) {m:Nat} (h1:1<=m) (h2:m<=ds.length):Digs b (val b (ds.take m)) (ds.take m):=by
 have h:=d.pos (by omega)
 refine ⟨fun x hx=>d.rng x (List.mem_of_mem_take hx),rfl,?_,.inr ?_⟩
 ·intro z
  have:=congrArg List.length z
  rw [List.length_take,List.length_nil] at this
  omega
 ·match ds,m,h1,h2,h with
  | x::r,m+1,_,_,h=>simpa using h
def pal (b f:Int) (L:Nat):Int:=val b (fg b f++((fg b f).take (L / 2)).reverse)
theorem pal_rev {α:Type} {xs:List α} {L:Nat} (hl:xs.length=hf L):(xs++(xs.take (L / 2)).reverse).reverse=xs++(xs.take (L / 2)).reverse:=by
 unfold hf at hl
 rw [List.reverse_append,List.reverse_reverse]
 by_cases hp:L % 2=0
 ·have e:L / 2=xs.length:=by omega
  rw [e,List.take_length]
 ·have e:L / 2=xs.length - 1:=by omega
  rw [e]
  have hx:xs≠[]:=by intro z;rw [z] at hl;simp at hl;omega
  obtain ⟨ys,y,rfl⟩:∃ys y,xs=ys++[y]:=⟨xs.dropLast,xs.getLast hx,(List.dropLast_concat_getLast hx).symm⟩
  have e2:(ys++[y]).length - 1=ys.length:=by simp
  rw [e2,List.take_left' rfl,List.reverse_append]
  simp
structure Fr (b f:Int) (L:Nat):Prop where
 b2:2<=b
 L1:1<=L
 lo:b ^ (hf L - 1)<=f
 hi:f<b ^ hf L
theorem hf_pos {L:Nat} (h:1<=L):1<=hf L:=by unfold hf;omega
theorem Fr.pos {b f:Int} {L:Nat} (h:Fr b f L):1<=f:=by have:=pow_pos' (show 0<b by have:=h.b2;omega) (hf L - 1);have:=h.lo;omega
theorem Fr.len {b f:Int} {L:Nat} (h:Fr b f L):(fg b f).length=hf L:=ln_of h.b2 (hf_pos h.L1) h.lo h.hi
theorem Fr.digs {b f:Int} {L:Nat} (h:Fr b f L):Digs b (pal b f L) (fg b f++((fg b f).take (L / 2)).reverse):=by
 have d:=fg_digs h.b2 (show 0<=f by have:=h.pos;omega)
 have p:=d.pos (by have:=h.pos;omega)
 refine ⟨fun x hx=>?_,rfl,?_,.inr ?_⟩
 ·rcases List.mem_append.mp hx with hx|hx
  ·exact d.rng x hx
  ·exact d.rng x (List.mem_of_mem_take (List.mem_reverse.mp hx))
 ·intro z;exact d.ne (List.append_eq_nil_iff.mp z).1
 ·match fg b f,d.ne,p with
  | x::r,_,p=>simpa using p
theorem Fr.pal0 {b f:Int} {L:Nat} (h:Fr b f L):0<=pal b f L:=h.digs.nn h.b2
theorem Fr.fgp {b f:Int} {L:Nat} (h:Fr b f L):fg b (pal b f L)=fg b f++((fg b f).take (L / 2)).reverse:=(h.digs.fg h.b2 h.pal0).symm
theorem Fr.mir {b f:Int} {L:Nat} (h:Fr b f L):mir b (pal b f L)=true:=by
 unfold M.mir
 rw [h.fgp]
 exact decide_eq_true (pal_rev h.len).symm
theorem Fr.ln {b f:Int} {L:Nat} (h:Fr b f L):ln b (pal b f L)=L:=by
 unfold M.ln
 have l:=h.len
 have:=h.L1
 rw [h.fgp,List.length_append,List.length_reverse,List.length_take,l]
 unfold hf;omega
theorem Fr.split {b f:Int} {L:Nat} (h:Fr b f L):f * b ^ (L / 2)<=pal b f L/\pal b f L<(f+1) * b ^ (L / 2):=by
 have d:=fg_digs h.b2 (show 0<=f by have:=h.pos;omega)
 have hb:=h.b2
 have e:pal b f L=val b (fg b f) * b ^ (((fg b f).take (L / 2)).reverse).length+val b (((fg b f).take (L / 2)).reverse):=val_app _ _ _
 have hl:(((fg b f).take (L / 2)).reverse).length=L / 2:=by rw [List.length_reverse,List.length_take,h.len];unfold hf;omega
 rw [hl,d.val] at e
 have r:∀x∈((fg b f).take (L / 2)).reverse,0<=x/\x<b:=fun x hx=>d.rng x (List.mem_of_mem_take (List.mem_reverse.mp hx))
 have v0:=val_nn (show 0<=b by omega) r
 have v1:=val_lt (show 1<=b by omega) r
 rw [hl] at v1
 rw [Int.add_mul,Int.one_mul]
 omega
theorem Fr.front {b f:Int} {L:Nat} (h:Fr b f L):pal b f L / b ^ (L / 2)=f:=by
 obtain ⟨h1,h2⟩:=h.split
 have p:=pow_pos' (show 0<b by have:=h.b2;omega) (L / 2)
 have g1:f<=pal b f L / b ^ (L / 2):=Int.le_ediv_of_mul_le p h1
 have g2:pal b f L / b ^ (L / 2)<f+1:=Int.ediv_lt_of_lt_mul p h2
 omega
theorem Fr.mono {b f f':Int} {L:Nat} (h:Fr b f L) (h':Fr b f' L) (hlt:f<f'):pal b f L<pal b f' L:=by
 have h1:=h.split.2
 have h2:=h'.split.1
 have p:=pow_pos' (show 0<b by have:=h.b2;omega) (L / 2)
 have:(f+1) * b ^ (L / 2)<=f' * b ^ (L / 2):=Int.mul_le_mul_of_nonneg_right (by omega) (by omega)
 omega
theorem front_of {b n:Int} (hb:2<=b) (hn:1<=n):Fr b (n / b ^ (ln b n / 2)) (ln b n):=by
 have d:=fg_digs hb (show 0<=n by omega)
 have l1:=ln_pos hb (show 0<=n by omega)
 obtain ⟨e,_⟩:=front_val hb d (ln b n / 2) (by unfold ln;omega)
 have el:(fg b n).length - ln b n / 2=hf (ln b n):=by unfold hf ln;unfold ln at l1;omega
 rw [el] at e
 have d2:=take_digs hb d hn (hf_pos l1) (by unfold hf ln;unfold ln at l1;omega)
 have l2:((fg b n).take (hf (ln b n))).length=hf (ln b n):=by rw [List.length_take];unfold hf ln;unfold ln at l1;omega
 rw [e]
 refine ⟨hb,l1,?_,?_⟩
 ·have hpos:0<val b ((fg b n).take (hf (ln b n))):=by
   rw [<-e]
   have g:=ln_ge hb hn
   have p:=pow_pos' (show 0<b by omega) (ln b n / 2)
   by_cases z:0<n / b ^ (ln b n / 2)
   ·exact z
   ·have z0:=Int.ediv_nonneg (show 0<=n by omega) (show 0<=b ^ (ln b n / 2) by omega)
    have z1:n / b ^ (ln b n / 2)=0:=by omega
    have z2:=Int.lt_mul_of_ediv_lt p (show n / b ^ (ln b n / 2)<1 by omega)
    rw [Int.one_mul] at z2
    by_cases q:ln b n=1
    ·rw [q] at z2;simp at z2;omega
    ·have:=pow_le (b:=b) (by omega) (show ln b n / 2<=ln b n - 1 by omega)
     omega
  have:=d2.ge hb hpos
  rw [l2] at this;exact this
 ·have:=d2.lt hb
  rw [l2] at this;exact this
theorem mir_pal {b n:Int} (hb:2<=b) (hn:1<=n) (h:mir b n=true):pal b (n / b ^ (ln b n / 2)) (ln b n)=n:=by
 have d:=fg_digs hb (show 0<=n by omega)
 have F:=front_of hb hn
 obtain ⟨e,_⟩:=front_val hb d (ln b n / 2) (by unfold ln;omega)
 have l1:=ln_pos hb (show 0<=n by omega)
 have el:(fg b n).length - ln b n / 2=hf (ln b n):=by unfold hf ln;unfold ln at l1;omega
 rw [el] at e
 have d2:=take_digs hb d hn (hf_pos l1) (by unfold hf ln;unfold ln at l1;omega)
 have e3:fg b (n / b ^ (ln b n / 2))=(fg b n).take (hf (ln b n)):=by
  rw [e];exact (d2.fg hb (d2.nn hb)).symm
 have hp:fg b n=(fg b n).reverse:=of_decide_eq_true h
 unfold pal
 rw [e3,List.take_take]
 have em:min (ln b n / 2) (hf (ln b n))=ln b n / 2:=by unfold hf;omega
 rw [em]
 have ed:(fg b n).drop (hf (ln b n))=((fg b n).take (ln b n / 2)).reverse:=by
  have:(fg b n).drop (hf (ln b n))=((fg b n).reverse).drop (hf (ln b n)):=by rw [<-hp]
  rw [this,List.drop_reverse]
  congr 2
  unfold hf ln;unfold ln at l1;omega
 rw [<-ed,List.take_append_drop]
 exact d.val
def Mp (b m:Int):Prop:=0<=m/\mir b m=true
structure AM (b n m:Int):Prop where
 mp:Mp b m
 le:m<=n
 top:∀k,Mp b k->k<=n->k<=m
structure AL (b n m:Int):Prop where
 mp:Mp b m
 le:n<=m
 bot:∀k,Mp b k->n<=k->m<=k
structure Nx (b n m:Int):Prop where
 mp:Mp b m
 lt:n<m
 bot:∀k,Mp b k->n<k->m<=k
theorem AM.uniq {b n m m':Int} (h:AM b n m) (h':AM b n m'):m=m':=by
 have:=h.top m' h'.mp h'.le
 have:=h'.top m h.mp h.le
 omega
theorem Nx.uniq {b n m m':Int} (h:Nx b n m) (h':Nx b n m'):m=m':=by
 have:=h.bot m' h'.mp h'.lt
 have:=h'.bot m h.mp h.lt
 omega
theorem mp_small {b m:Int} (h0:0<=m) (h:m<b):Mp b m:=⟨h0,mir_small h0 h⟩
theorem nines {b:Int} (hb:2<=b) {L:Nat} (hL:1<=L):Fr b (b ^ hf L - 1) L/\pal b (b ^ hf L - 1) L=b ^ L - 1:=by
 have h1:=hf_pos hL
 have F:Fr b (b ^ hf L - 1) L:=⟨hb,hL,by
  have:=pow_lt hb (show hf L - 1<hf L by omega)
  omega,by omega⟩
 refine ⟨F,?_⟩
 -- its figures are all the greatest
 have rep:∀k:Nat,val b (List.replicate k (b - 1))=b ^ k - 1:=by
  intro k
  induction k with
  | zero=>simp [val]
  | succ k ih=>
   rw [List.replicate_succ,val_cons,List.length_replicate,ih,Int.pow_succ,Int.sub_mul,Int.one_mul,Int.mul_comm b]
   omega
 have dg:Digs b (b ^ hf L - 1) (List.replicate (hf L) (b - 1)):=⟨fun d hd=>by have:=List.eq_of_mem_replicate hd;omega,rep _,by
  obtain ⟨k,hk⟩:∃k,hf L=k+1:=⟨hf L - 1,by omega⟩
  rw [hk,List.replicate_succ];simp,.inr (by
  obtain ⟨k,hk⟩:∃k,hf L=k+1:=⟨hf L - 1,by omega⟩
  rw [hk,List.replicate_succ]
  intro z
  have:b - 1=0:=by simpa using z
  omega)⟩
 have e:=(dg.fg hb (by have:=F.pos;omega))
 unfold pal
 rw [<-e,List.take_replicate,List.reverse_replicate,List.replicate_append_replicate,rep]
 have:hf L+min (L / 2) (hf L)=L:=by unfold hf;omega
 rw [this]
theorem nines_mp {b:Int} (hb:2<=b) (L:Nat):Mp b (b ^ L - 1):=by
 by_cases h:1<=L
 ·obtain ⟨F,e⟩:=nines hb h
  rw [<-e];exact ⟨F.pal0,F.mir⟩
 ·have:L=0:=by omega
  subst this
  exact mp_small (by simp) (by simp;omega)
theorem Fr.mp {b f:Int} {L:Nat} (h:Fr b f L):Mp b (pal b f L):=⟨h.pal0,h.mir⟩
theorem am_front {b n:Int} (hb:2<=b) (hn:1<=n) (h:pal b (n / b ^ (ln b n / 2)) (ln b n)<=n):AM b n (pal b (n / b ^ (ln b n / 2)) (ln b n)):=by
 have F:=front_of hb hn
 refine ⟨F.mp,h,fun k hk hkn=>?_⟩
 by_cases hk1:k<=0
 ·have:=F.pal0;omega
 have ll:=ln_mono hb hk.1 hkn
 by_cases hL:ln b k=ln b n
 ·have Fk:=front_of hb (show 1<=k by omega)
  have ek:=mir_pal hb (show 1<=k by omega) hk.2
  rw [hL] at Fk ek
  have hle:k / b ^ (ln b n / 2)<=n / b ^ (ln b n / 2):=Int.ediv_le_ediv (pow_pos' (by omega) _) hkn
  by_cases he:k / b ^ (ln b n / 2)=n / b ^ (ln b n / 2)
  ·rw [he] at ek;omega
  ·have:=Fk.mono F (by omega)
   omega
 ·have g1:=ln_lt hb hk.1
  have g2:=ln_ge hb (show 1<=pal b (n / b ^ (ln b n / 2)) (ln b n) by
   have:=F.split.1
   have:=F.pos
   have p:=pow_pos' (show 0<b by omega) (ln b n / 2)
   have:=Int.mul_le_mul_of_nonneg_right (show 1<=n / b ^ (ln b n / 2) by omega) (show 0<=b ^ (ln b n / 2) by omega)
   omega)
  rw [F.ln] at g2
  have:=pow_le (b:=b) (by omega) (show ln b k<=ln b n - 1 by omega)
  omega
theorem am_less {b n:Int} (hb:2<=b) (hn:1<=n) (h:n<pal b (n / b ^ (ln b n / 2)) (ln b n)) (hf':n / b ^ (ln b n / 2)≠b ^ (hf (ln b n) - 1)):AM b n (pal b (n / b ^ (ln b n / 2) - 1) (ln b n)):=by
 have F:=front_of hb hn
 have F1:Fr b (n / b ^ (ln b n / 2) - 1) (ln b n):=⟨hb,F.L1,by have:=F.lo;omega,by have:=F.hi;omega⟩
 have p:=pow_pos' (show 0<b by omega) (ln b n / 2)
 have h1:pal b (n / b ^ (ln b n / 2) - 1) (ln b n)<=n:=by
  have:=F1.split.2
  have e:n / b ^ (ln b n / 2) - 1+1=n / b ^ (ln b n / 2):=by omega
  rw [e] at this
  have:=Int.ediv_mul_le n (show b ^ (ln b n / 2)≠0 by omega)
  omega
 refine ⟨F1.mp,h1,fun k hk hkn=>?_⟩
 by_cases hk1:k<=0
 ·have:=F1.pal0;omega
 have ll:=ln_mono hb hk.1 hkn
 by_cases hL:ln b k=ln b n
 ·have Fk:=front_of hb (show 1<=k by omega)
  have ek:=mir_pal hb (show 1<=k by omega) hk.2
  rw [hL] at Fk ek
  have hle:k / b ^ (ln b n / 2)<=n / b ^ (ln b n / 2):=Int.ediv_le_ediv p hkn
  by_cases he:k / b ^ (ln b n / 2)=n / b ^ (ln b n / 2)
  ·rw [he] at ek;omega
  ·by_cases he2:k / b ^ (ln b n / 2)=n / b ^ (ln b n / 2) - 1
   ·rw [he2] at ek;omega
   ·have:=Fk.mono F1 (by omega)
    omega
 ·have g1:=ln_lt hb hk.1
  have g2:=ln_ge hb (show 1<=pal b (n / b ^ (ln b n / 2) - 1) (ln b n) by
   have:=F1.split.1
   have:=F1.pos
   have:=Int.mul_le_mul_of_nonneg_right (show 1<=n / b ^ (ln b n / 2) - 1 by omega) (show 0<=b ^ (ln b n / 2) by omega)
   omega)
  rw [F1.ln] at g2
  have:=pow_le (b:=b) (by omega) (show ln b k<=ln b n - 1 by omega)
  omega
theorem am_short {b n:Int} (hb:2<=b) (hn:1<=n) (h:n<pal b (n / b ^ (ln b n / 2)) (ln b n)) (hf':n / b ^ (ln b n / 2)=b ^ (hf (ln b n) - 1)):AM b n (b ^ (ln b n - 1) - 1):=by
 have F:=front_of hb hn
 have p:=pow_pos' (show 0<b by omega) (ln b n / 2)
 have g:=ln_ge hb hn
 refine ⟨nines_mp hb _,by omega,fun k hk hkn=>?_⟩
 have q:=pow_pos' (show 0<b by omega) (ln b n - 1)
 by_cases hk1:k<=0
 ·omega
 have ll:=ln_mono hb hk.1 hkn
 by_cases hL:ln b k=ln b n
 ·have Fk:=front_of hb (show 1<=k by omega)
  have ek:=mir_pal hb (show 1<=k by omega) hk.2
  rw [hL] at Fk ek
  have hle:k / b ^ (ln b n / 2)<=n / b ^ (ln b n / 2):=Int.ediv_le_ediv p hkn
  have:=Fk.lo
  have he:k / b ^ (ln b n / 2)=n / b ^ (ln b n / 2):=by omega
  rw [he] at ek;omega
 ·have g1:=ln_lt hb hk.1
  have:=pow_le (b:=b) (by omega) (show ln b k<=ln b n - 1 by omega)
  omega
theorem nx_front {b m:Int} (hb:2<=b) (hm:Mp b m) (h1:1<=m) (h:m≠b ^ ln b m - 1):Fr b (m / b ^ (ln b m / 2)+1) (ln b m)/\Nx b m (pal b (m / b ^ (ln b m / 2)+1) (ln b m)):=by
 have F:=front_of hb h1
 have em:=mir_pal hb h1 hm.2
 have p:=pow_pos' (show 0<b by omega) (ln b m / 2)
 have F1:Fr b (m / b ^ (ln b m / 2)+1) (ln b m):=⟨hb,F.L1,by have:=F.lo;omega,by
  have hi:=F.hi
  by_cases z:m / b ^ (ln b m / 2)+1<b ^ hf (ln b m)
  ·exact z
  ·have e:m / b ^ (ln b m / 2)=b ^ hf (ln b m) - 1:=by omega
   have:=(nines hb F.L1).2
   rw [<-e] at this
   omega⟩
 refine ⟨F1,F1.mp,by have:=F.mono F1 (by omega);omega,fun k hk hkn=>?_⟩
 have ll:=ln_mono hb hm.1 (show m<=k by omega)
 by_cases hL:ln b k=ln b m
 ·have Fk:=front_of hb (show 1<=k by omega)
  have ek:=mir_pal hb (show 1<=k by omega) hk.2
  rw [hL] at Fk ek
  have hle:m / b ^ (ln b m / 2)<=k / b ^ (ln b m / 2):=Int.ediv_le_ediv p (by omega)
  by_cases he:m / b ^ (ln b m / 2)=k / b ^ (ln b m / 2)
  ·rw [<-he] at ek;omega
  ·by_cases he2:m / b ^ (ln b m / 2)+1=k / b ^ (ln b m / 2)
   ·rw [he2];omega
   ·have:=F1.mono Fk (by omega)
    omega
 ·have g1:=ln_lt hb F1.pal0
  rw [F1.ln] at g1
  have g2:=ln_ge hb (show 1<=k by omega)
  have:=pow_le (b:=b) (by omega) (show ln b m<=ln b k - 1 by omega)
  omega
theorem val_zeros (b:Int):∀k:Nat,val b (List.replicate k 0)=0
 | 0=>rfl
 | k+1=>by rw [List.replicate_succ,val_cons,val_zeros b k,Int.zero_mul,Int.zero_add]
theorem pow_digs {b:Int} (hb:2<=b) (k:Nat):Digs b (b ^ k) (1::List.replicate k 0):=
 ⟨fun d hd=>by
  rcases List.mem_cons.mp hd with rfl|hd
  ·omega
  ·have:=List.eq_of_mem_replicate hd;omega,by rw [val_cons,val_zeros,List.length_replicate];omega,by simp,.inr (by simp)⟩
theorem pow_not {b:Int} (hb:2<=b) {k:Nat} (hk:1<=k):mir b (b ^ k)=false:=by
 unfold mir
 have e:=(pow_digs hb k).fg hb (by have:=pow_pos' (show 0<b by omega) k;omega)
 rw [<-e]
 obtain ⟨j,rfl⟩:∃j,k=j+1:=⟨k - 1,by omega⟩
 refine decide_eq_false fun z=>?_
 have:=congrArg List.head? z
 rw [List.replicate_succ',List.reverse_cons,List.reverse_append] at this
 simp at this
theorem more_digs {b:Int} (hb:2<=b) (k:Nat):Digs b (b ^ (k+1)+1) (1::(List.replicate k 0++[1])):=
 ⟨fun d hd=>by
  rcases List.mem_cons.mp hd with rfl|hd
  ·omega
  ·rcases List.mem_append.mp hd with hd|hd
   ·have:=List.eq_of_mem_replicate hd;omega
   ·rw [List.mem_singleton] at hd;omega,by
  rw [val_cons,val_snoc,val_zeros,List.length_append,List.length_replicate,List.length_singleton];omega,by simp,.inr (by simp)⟩
theorem more_mp {b:Int} (hb:2<=b) (k:Nat):Mp b (b ^ (k+1)+1):=by
 have p:=pow_pos' (show 0<b by omega) (k+1)
 refine ⟨by omega,?_⟩
 unfold mir
 rw [<-(more_digs hb k).fg hb (by omega)]
 refine decide_eq_true ?_
 rw [List.reverse_cons,List.reverse_append,List.reverse_replicate]
 simp
theorem nx_nines {b:Int} (hb:2<=b) {L:Nat} (hL:1<=L):Nx b (b ^ L - 1) (b ^ L+1):=by
 obtain ⟨j,rfl⟩:∃j,L=j+1:=⟨L - 1,by omega⟩
 refine ⟨more_mp hb j,by omega,fun k hk h=>?_⟩
 by_cases e:k=b ^ (j+1)
 ·have:=hk.2
  rw [e,pow_not hb (by omega)] at this;cases this
 ·omega
theorem nx_zero {b:Int} (hb:2<=b):Nx b 0 1:=⟨mp_small (by decide) (by omega),by decide,fun k _ h=>by omega⟩
theorem AL.nx {b n lo hi:Int} (h:AL b n hi) (l:AM b n lo) (hne:n<hi):Nx b lo hi:=by
 refine ⟨h.mp,by have:=l.le;omega,fun k hk hlk=>?_⟩
 by_cases z:n<=k
 ·exact h.bot k hk z
 ·have:=l.top k hk (by omega)
  omega
theorem ln_le {b n:Int} (hb:2<=b) (hn:0<=n) (h:n<Big):ln b n<=4001:=fg_len hb hn h
theorem pw_big {b n:Int} (hb:2<=b) (hn:0<=n) (h:n<Big) {k:Nat} (hk:k<=ln b n - 1):b ^ k<2 ^ 4000:=by
 by_cases z:1<=n
 ·have:=ln_ge hb z
  have:=pow_le (b:=b) (by omega) hk
  rw [<-big_def];omega
 ·have e:n=0:=by omega
  subst e
  have:ln b 0=1:=by unfold ln;rw [fg_zero hb];rfl
  have:k=0:=by omega
  subst this
  have:(1:Int)<2 ^ 4000:=by decide +kernel
  simpa using this
def mtl (b:Int) (L:Nat):Int:=b ^ hf L - 1+b ^ (L / 2) - 1
def pl (b m:Int):Int:=if m=0 then 0 else mtl b (ln b m - 1)+(m / b ^ (ln b m / 2) - b ^ (hf (ln b m) - 1))+1
def cntN (b:Int):Nat->Int
 | 0=>0
 | n+1=>cntN b n+(if mir b ((n:Int)+1)=true then 1 else 0)
def cnt (b n:Int):Int:=cntN b n.toNat
theorem mtl_succ {b:Int} {L:Nat} (hL:1<=L):mtl b L=mtl b (L - 1)+b ^ hf L - b ^ (hf L - 1):=by
 unfold mtl
 have e1:hf (L - 1)=L / 2:=by unfold hf;omega
 have e2:(L - 1) / 2=hf L - 1:=by unfold hf;omega
 rw [e1,e2];omega
theorem pl_next {b m m':Int} (hb:2<=b) (hm:Mp b m) (h:Nx b m m'):pl b m'=pl b m+1:=by
 by_cases hz:m=0
 ·subst hz
  have e:=h.uniq (nx_zero hb)
  subst e
  have l1:ln b 1=1:=by unfold ln;rw [fg_small (by decide) (by omega)];rfl
  unfold pl
  rw [if_neg (by decide),if_pos rfl,l1]
  simp [mtl,hf]
 have m1:1<=m:=by have:=hm.1;omega
 have F:=front_of hb m1
 have em:=mir_pal hb m1 hm.2
 by_cases hn:m=b ^ ln b m - 1
 ·-- greatest figures alone
  have l0:=ln_pos hb hm.1
  have nx:=nx_nines hb l0
  rw [<-hn] at nx
  have e:=h.uniq nx
  have p:=pow_pos' (show 0<b by omega) (ln b m)
  have q2:=pow_le (b:=b) (by omega) (show 1<=ln b m by omega)
  rw [pow1] at q2
  have ll:ln b m'=ln b m+1:=ln_of hb (by omega) (by rw [Nat.add_sub_cancel,e];omega) (by
   rw [e,Int.pow_succ]
   have:b ^ ln b m * 2<=b ^ ln b m * b:=Int.mul_le_mul_of_nonneg_left hb (by omega)
   omega)
  have hne:m'≠0:=by rw [e];omega
  have fr:m' / b ^ ((ln b m+1) / 2)=b ^ (hf (ln b m+1) - 1):=by
   have ep:b ^ ln b m=b ^ (hf (ln b m+1) - 1) * b ^ ((ln b m+1) / 2):=by
    rw [<-Int.pow_add];congr 1;unfold hf;omega
   have p2:=pow_pos' (show 0<b by omega) ((ln b m+1) / 2)
   have p3:=pow_le (b:=b) (by omega) (show 1<=(ln b m+1) / 2 by omega)
   rw [pow1] at p3
   rw [e,ep,Int.add_comm,Int.add_mul_ediv_right _ _ (by omega),Int.ediv_eq_zero_of_lt (by decide) (by omega),Int.zero_add]
  have f0:m / b ^ (ln b m / 2)=b ^ hf (ln b m) - 1:=by
   have N:=nines hb l0
   have:pal b (b ^ hf (ln b m) - 1) (ln b m)=m:=by rw [N.2];exact hn.symm
   have g:=N.1.front
   rw [this] at g;exact g
  unfold pl
  rw [if_neg hne,if_neg hz,ll,Nat.add_sub_cancel,fr,f0,mtl_succ l0]
  omega
 ·obtain ⟨F1,nx⟩:=nx_front hb hm m1 hn
  have e:=h.uniq nx
  have ll:ln b m'=ln b m:=by rw [e];exact F1.ln
  have fr:m' / b ^ (ln b m / 2)=m / b ^ (ln b m / 2)+1:=by rw [e];exact F1.front
  have hne:m'≠0:=by have:=h.lt;omega
  unfold pl
  rw [if_neg hne,if_neg hz,ll,fr]
  omega
theorem AM.step {b:Int} {n:Nat} {m:Int} (h:AM b n m) (hm:mir b ((n:Int)+1)=false):AM b ((n:Int)+1) m:=⟨h.mp,by have:=h.le;omega,fun k hk hle=>by
 by_cases e:k=(n:Int)+1
 ·rw [e] at hk;rw [hk.2] at hm;cases hm
 ·exact h.top k hk (by omega)⟩
theorem AM.self {b m:Int} (h:Mp b m):AM b m m:=⟨h,Int.le_refl _,fun _ _ h=>h⟩
theorem am_ex {b:Int} (hb:2<=b):∀n:Nat,∃m,AM b n m
 | 0=>⟨0,mp_small (by decide) (by omega),by simp,fun k _ h=>h⟩
 | n+1=>by
  cases hm:mir b ((n:Int)+1) with
  | true=>exact ⟨(n:Int)+1,AM.self ⟨by omega,hm⟩⟩
  | false=>
   obtain ⟨m,h⟩:=am_ex hb n
   exact ⟨m,h.step hm⟩
theorem pl_cntN {b:Int} (hb:2<=b):∀(n:Nat) (m:Int),AM b n m->pl b m=cntN b n
 | 0,m,h=>by
  have:m=0:=by have:=h.le;have:=h.mp.1;omega
  subst this
  unfold pl;rw [if_pos rfl];rfl
 | n+1,m,h=>by
  have h':AM b ((n:Int)+1) m:=h
  show pl b m=cntN b n+_
  obtain ⟨m0,h0⟩:=am_ex hb n
  have ih:=pl_cntN hb n m0 h0
  cases hm:mir b ((n:Int)+1) with
  | true=>
   have e:m=(n:Int)+1:=h'.uniq (AM.self ⟨by omega,hm⟩)
   have nx:Nx b m0 m:=⟨h.mp,by have:=h0.le;omega,fun k hk hlt=>by
    by_cases z:k<=n
    ·have:=h0.top k hk z;omega
    ·omega⟩
   rw [pl_next hb h0.mp nx,ih];simp
  | false=>
   have e:m=m0:=h'.uniq (h0.step hm)
   rw [e,ih];simp
theorem pl_cnt {b n m:Int} (hb:2<=b) (hn:0<=n) (h:AM b n m):pl b m=cnt b n:=by
 unfold cnt
 refine pl_cntN hb _ _ ?_
 have:((n.toNat:Nat):Int)=n:=by omega
 rw [this];exact h
theorem cntN_mono (b:Int):∀{m n:Nat},m<=n->cntN b m<=cntN b n:=by
 intro m n h
 induction h with
 | refl=>exact Int.le_refl _
 | step _ ih=>
  refine Int.le_trans ih ?_
  show _<=cntN b _+_
  split<;>omega
theorem cnt_pos {b:Int} (hb:2<=b) {n:Int} (hn:1<=n):1<=cnt b n:=by
 unfold cnt
 have h:=cntN_mono b (show 1<=n.toNat by omega)
 have:cntN b 1=1:=by
  show 0+_=(1:Int)
  rw [show ((0:Nat):Int)+1=1 from rfl,mir_small (by decide) (by omega)];rfl
 omega
theorem pl_lt {b m m':Int} (hb:2<=b) (h:Mp b m) (h':Mp b m') (hlt:m<m'):pl b m<pl b m':=by
 have e1:=pl_cnt hb h.1 (AM.self h)
 have e2:=pl_cnt hb h'.1 (AM.self h')
 rw [e1,e2]
 unfold cnt
 obtain ⟨k,hk⟩:∃k,m'.toNat=k+1:=⟨m'.toNat - 1,by have:=h.1;omega⟩
 have q:=cntN_mono b (show m.toNat<=k by omega)
 rw [hk]
 show _<cntN b k+_
 have e:((k:Int)+1)=m':=by have:=h'.1;omega
 rw [e,h'.2]
 simp;omega
theorem pl_inj {b m m':Int} (hb:2<=b) (h:Mp b m) (h':Mp b m') (e:pl b m=pl b m'):m=m':=by
 by_cases z:m<m'
 ·have:=pl_lt hb h h' z;omega
 ·by_cases z':m'<m
  ·have:=pl_lt hb h' h z';omega
  ·omega
theorem Fr.pl {b f:Int} {L:Nat} (F:Fr b f L):pl b (pal b f L)=mtl b (L - 1)+(f - b ^ (hf L - 1))+1:=by
 have h1:=F.split.1
 have p:=pow_pos' (show 0<b by have:=F.b2;omega) (L / 2)
 have:=F.pos
 have:=Int.mul_le_mul_of_nonneg_right (show 1<=f by omega) (show 0<=b ^ (L / 2) by omega)
 unfold M.pl
 rw [if_neg (by omega),F.ln,F.front]
def Mid:Int:=2 ^ 1100
theorem mid_40 {m:Int} (h:m<=10 ^ 60):m<Mid:=by
 have:(10:Int) ^ 60<Mid:=by unfold Mid;decide +kernel
 omega
theorem pl_mtl {b m:Int} (hb:2<=b) (hm:Mp b m) (h1:1<=m):pl b m<=mtl b (ln b m):=by
 have F:=front_of hb h1
 have e:=F.pl
 rw [mir_pal hb h1 hm.2] at e
 rw [e,mtl_succ F.L1]
 have:=F.hi
 omega
theorem sq_lt {x y:Int} (hx:0<=x) (hy:0<=y) (h:x * x<=y * y):x<=y:=by
 by_cases z:x<=y
 ·exact z
 ·have h1:y * x<x * x:=Int.mul_lt_mul_of_pos_right (by omega) (by omega)
  have h2:y * y<=y * x:=Int.mul_le_mul_of_nonneg_left (by omega) hy
  omega
def ms (b:Int):Nat->List Int
 | 0=>[]
 | n+1=>if mir b (n:Int)=true then ms b n++[(n:Int)] else ms b n
theorem ms_yes {b:Int} {n:Nat} (h:mir b (n:Int)=true):ms b (n+1)=ms b n++[(n:Int)]:=by unfold ms;rw [if_pos h];cases n<;>rfl
theorem ms_no {b:Int} {n:Nat} (h:¬mir b (n:Int)=true):ms b (n+1)=ms b n:=by rw [ms,if_neg h]
theorem ms_len {b:Int} (hb:2<=b):∀n:Nat,((ms b (n+1)).length:Int)=cntN b n+1
 | 0=>by rw [ms_yes (by exact mir_small (by decide) (by omega))];rfl
 | n+1=>by
  have ih:=ms_len hb n
  by_cases h:mir b ((n+1:Nat):Int)=true
  ·rw [ms_yes h,List.length_append]
   have h':mir b ((n:Int)+1)=true:=h
   have e:cntN b (n+1)=cntN b n+1:=by simp only [cntN,h',if_true]
   rw [e];simp;omega
  ·rw [ms_no h]
   have h':¬mir b ((n:Int)+1)=true:=h
   have e:cntN b (n+1)=cntN b n:=by simp only [cntN,h'];simp
   rw [e];exact ih
theorem ms_pl {b:Int} (hb:2<=b):∀(n j:Nat) (x:Int),(ms b n)[j]? = some x->Mp b x/\pl b x=(j:Int)/\x<(n:Int)
 | 0,j,x,h=>by simp [ms] at h
 | n+1,j,x,h=>by
  have ih:=ms_pl hb n
  by_cases hm:mir b (n:Int)=true
  ·rw [ms_yes hm] at h
   by_cases hj:j<(ms b n).length
   ·rw [List.getElem?_append_left hj] at h
    obtain ⟨a1,a2,a3⟩:=ih j x h
    exact ⟨a1,a2,by omega⟩
   ·rw [List.getElem?_append_right (by omega)] at h
    have e0:j - (ms b n).length=0:=by
     by_cases z:j - (ms b n).length=0
     ·exact z
     ·obtain ⟨k,hk⟩:∃k,j - (ms b n).length=k+1:=⟨j - (ms b n).length - 1,by omega⟩
      rw [hk] at h;simp at h
    rw [e0] at h
    have ex:x=(n:Int):=by simpa using h.symm
    have ej:j=(ms b n).length:=by omega
    have mp:Mp b x:=by rw [ex];exact ⟨by omega,hm⟩
    refine ⟨mp,?_,by omega⟩
    have h1:=pl_cntN hb n x (by rw [ex];exact AM.self (by rw [<-ex];exact mp))
    rw [h1,ej]
    cases n with
    | zero=>rfl
    | succ n=>
     rw [ms_len hb n]
     have h':mir b ((n:Int)+1)=true:=hm
     simp only [cntN,h',if_true]
  ·rw [ms_no hm] at h
   obtain ⟨a1,a2,a3⟩:=ih j x h
   exact ⟨a1,a2,by omega⟩
theorem cnt_snoc {b:Int} {n:Nat}:cntN b (n+1)=cntN b n+(if mir b ((n:Int)+1)=true then 1 else 0):=rfl
def pms (b:Int):Nat->List Int
 | 0=>[]
 | n+1=>if mir b ((n:Int)+1)=true then pms b n++[(n:Int)+1] else pms b n
def mto (b n:Int):List Int:=pms b n.toNat
theorem pms_yes {b:Int} {n:Nat} (h:mir b ((n:Int)+1)=true):pms b (n+1)=pms b n++[(n:Int)+1]:=by rw [pms,if_pos h]
theorem pms_no {b:Int} {n:Nat} (h:¬mir b ((n:Int)+1)=true):pms b (n+1)=pms b n:=by rw [pms,if_neg h]
theorem pms_gap {b:Int} {m:Nat}:∀{n:Nat},m<=n->(∀k:Int,(m:Int)<k->k<=(n:Int)->¬mir b k=true)->pms b n=pms b m
 | 0,h,_=>by
  have:m=0:=by omega
  rw [this]
 | n+1,h,hk=>by
  by_cases e:m=n+1
  ·rw [e]
  ·rw [pms_no (hk _ (by omega) (by omega))]
   exact pms_gap (by omega) fun k h1 h2=>hk k h1 (by omega)
theorem mto_gap {b m m' n:Int} (hm:Mp b m) (h:Nx b m m') (h1:m<=n) (h2:n<m'):mto b n=mto b m:=by
 have m0:=hm.1
 unfold mto
 refine pms_gap (by omega) fun k k1 k2 hk=>?_
 have:=h.bot k ⟨by omega,hk⟩ (by omega)
 omega
theorem mto_step {b m m':Int} (hm:Mp b m) (h:Nx b m m'):mto b m'=mto b m++[m']:=by
 have m0:=hm.1
 have lt:=h.lt
 have g:=mto_gap hm h (n:=m' - 1) (by omega) (by omega)
 rw [<-g]
 unfold mto
 obtain ⟨k,hk⟩:∃k,m'.toNat=k+1:=⟨m'.toNat - 1,by omega⟩
 have e:(m' - 1).toNat=k:=by omega
 have e2:(k:Int)+1=m':=by omega
 rw [hk,e,pms_yes (by rw [e2];exact h.mp.2),e2]
theorem mem_pms {b:Int}:∀{n:Nat} {k:Int},k∈pms b n ↔ 1<=k/\k<=(n:Int)/\mir b k=true
 | 0,k=>by
  simp only [pms,List.not_mem_nil,false_iff]
  omega
 | n+1,k=>by
  have ih:=mem_pms (b:=b) (n:=n) (k:=k)
  by_cases h:mir b ((n:Int)+1)=true
  ·rw [pms_yes h,List.mem_append,List.mem_singleton,ih]
   constructor
   ·rintro (⟨h1,h2,h3⟩|rfl)
    ·exact ⟨h1,by omega,h3⟩
    ·exact ⟨by omega,by omega,h⟩
   ·rintro ⟨h1,h2,h3⟩
    by_cases e:k=(n:Int)+1
    ·exact .inr e
    ·exact .inl ⟨h1,by omega,h3⟩
  ·rw [pms_no h,ih]
   constructor
   ·rintro ⟨h1,h2,h3⟩;exact ⟨h1,by omega,h3⟩
   ·rintro ⟨h1,h2,h3⟩
    refine ⟨h1,?_,h3⟩
    by_cases e:k=(n:Int)+1
    ·rw [e] at h3;exact absurd h3 h
    ·omega
theorem mem_mto {b n k:Int} (hn:0<=n):k∈mto b n ↔ 1<=k/\k<=n/\mir b k=true:=by
 unfold mto
 rw [mem_pms]
 have:((n.toNat:Nat):Int)=n:=by omega
 rw [this]
theorem pms_sorted (b:Int):∀n:Nat,(pms b n).Pairwise (·<·)
 | 0=>List.Pairwise.nil
 | n+1=>by
  have ih:=pms_sorted b n
  by_cases h:mir b ((n:Int)+1)=true
  ·rw [pms_yes h,List.pairwise_append]
   refine ⟨ih,List.pairwise_singleton _ _,fun x hx y hy=>?_⟩
   rw [List.mem_singleton] at hy
   have:=(mem_pms.mp hx).2.1
   omega
  ·rw [pms_no h];exact ih
theorem mto_sorted (b n:Int):(mto b n).Pairwise (·<·):=pms_sorted b _
theorem pms_len (b:Int):∀n:Nat,((pms b n).length:Int)=cntN b n
 | 0=>rfl
 | n+1=>by
  have ih:=pms_len b n
  by_cases h:mir b ((n:Int)+1)=true
  ·rw [pms_yes h,List.length_append,cnt_snoc,if_pos h,<-ih];simp
  ·rw [pms_no h,cnt_snoc,if_neg h,<-ih];simp
theorem mto_len (b n:Int):((mto b n).length:Int)=cnt b n:=pms_len b _
theorem nx_least {b:Int} (hb:2<=b) {L:Nat} (hL:1<=L):Nx b (b ^ (L - 1) - 1) (pal b (b ^ (hf L - 1)) L):=by
 by_cases h1:L=1
 ·subst h1
  have e:pal b (b ^ (hf 1 - 1)) 1=1:=by
   show pal b (b ^ 0) 1=1
   rw [Int.pow_zero]
   unfold pal;rw [fg_small (by decide) (by omega)];simp [val]
  rw [e]
  show Nx b (b ^ 0 - 1) 1
  rw [Int.pow_zero]
  exact nx_zero hb
 ·obtain ⟨K,rfl⟩:∃K,L=K+1:=⟨L - 1,by omega⟩
  have hK:1<=K:=by omega
  rw [Nat.add_sub_cancel]
  have nx:=nx_nines hb hK
  have p:=pow_le (b:=b) (by omega) hK
  rw [pow1] at p
  have ll:ln b (b ^ K+1)=K+1:=ln_of hb (by omega) (by rw [Nat.add_sub_cancel];omega) (by
   rw [Int.pow_succ]
   have:b ^ K * 2<=b ^ K * b:=Int.mul_le_mul_of_nonneg_left hb (by omega)
   omega)
  have mp:=mir_pal hb (show 1<=b ^ K+1 by omega) nx.mp.2
  rw [ll] at mp
  have fr:(b ^ K+1) / b ^ ((K+1) / 2)=b ^ (hf (K+1) - 1):=by
   have ep:b ^ K=b ^ (hf (K+1) - 1) * b ^ ((K+1) / 2):=by
    rw [<-Int.pow_add];congr 1;unfold hf;omega
   have p2:=pow_pos' (show 0<b by omega) ((K+1) / 2)
   have p3:=pow_le (b:=b) (by omega) (show 1<=(K+1) / 2 by omega)
   rw [pow1] at p3
   rw [ep,Int.add_comm,Int.add_mul_ediv_right _ _ (by omega),Int.ediv_eq_zero_of_lt (by decide) (by omega),Int.zero_add]
  rw [fr] at mp
  rw [mp]
  exact nx
theorem nx_in {b f:Int} {L:Nat} (F:Fr b f L) (F1:Fr b (f+1) L):Nx b (pal b f L) (pal b (f+1) L):=by
 have hb:=F.b2
 obtain ⟨FN,eN⟩:=nines hb F.L1
 have hlt:pal b f L<b ^ L - 1:=by rw [<-eN];exact F.mono FN (by have:=F1.hi;omega)
 have s:=F.split.1
 have p:=pow_pos' (show 0<b by omega) (L / 2)
 have fp:=F.pos
 have:=Int.mul_le_mul_of_nonneg_right (show 1<=f by omega) (show 0<=b ^ (L / 2) by omega)
 have nx:=nx_front hb F.mp (by omega) (by rw [F.ln];omega)
 rw [F.ln,F.front] at nx
 exact nx.2
theorem cnt_le6 {b n:Int} (hb:2<=b) (h36:b<=36) (h0:0<=n) (h:n<=10 ^ 6):cnt b n<80000:=by
 obtain ⟨m,hm⟩:=am_ex hb n.toNat
 rw [show ((n.toNat:Nat):Int)=n by omega] at hm
 rw [<-pl_cnt hb h0 hm]
 have ml:=hm.le
 by_cases hz:m=0
 ·rw [hz];unfold pl;rw [if_pos rfl];decide
 have m1:1<=m:=by have:=hm.mp.1;omega
 have l0:=ln_pos hb hm.mp.1
 have g:=ln_ge hb m1
 have hp:=pow_pos' (show 0<b by omega) (hf (ln b m))
 have e1:b ^ hf (ln b m) * b ^ hf (ln b m)<=(36 * 10 ^ 3) * (36 * 10 ^ 3):=by
  rw [<-Int.pow_add]
  have h1:hf (ln b m)+hf (ln b m)<=ln b m - 1+2:=by unfold hf;omega
  have h2:=pow_le (b:=b) (by omega) h1
  have h2e:b ^ (ln b m - 1+2)=b ^ (ln b m - 1) * b ^ 2:=Int.pow_add ..
  rw [h2e] at h2
  have h3:b ^ 2<=36 * 36:=by
   have:b ^ 2=b * b:=by rw [Int.pow_succ,pow1]
   rw [this]
   exact Int.mul_le_mul h36 h36 (by omega) (by decide)
  have h4:b ^ (ln b m - 1) * b ^ 2<=10 ^ 6 * (36 * 36):=Int.mul_le_mul (by omega) h3 (by have:=pow_pos' (show 0<b by omega) 2;omega) (by decide)
  have h5:(10:Int) ^ 6 * (36 * 36)=(36 * 10 ^ 3) * (36 * 10 ^ 3):=by decide
  omega
 have e2:=sq_lt (by omega) (by decide) e1
 have e3:=pl_mtl hb hm.mp m1
 have e4:=pow_le (b:=b) (by omega) (show ln b m / 2<=hf (ln b m) by unfold hf;omega)
 unfold mtl at e3
 have:(36:Int) * 10 ^ 3+36 * 10 ^ 3<80000:=by decide
 omega
theorem dd_digs {b d:Int} (hb:2<=b) (d1:1<=d) (d2:d<b) (k:Nat):Digs b (d * b ^ (k+1)+d) (d::(List.replicate k 0++[d])):=
 ⟨fun e hd=>by
  rcases List.mem_cons.mp hd with rfl|hd
  ·omega
  ·rcases List.mem_append.mp hd with hd|hd
   ·have:=List.eq_of_mem_replicate hd;omega
   ·rw [List.mem_singleton] at hd;omega,by
  rw [val_cons,val_snoc,val_zeros,List.length_append,List.length_replicate,List.length_singleton];omega,by simp,.inr (by simp;omega)⟩
theorem dd_mp {b d:Int} (hb:2<=b) (d1:1<=d) (d2:d<b) (k:Nat):Mp b (d * b ^ (k+1)+d):=by
 have p:=pow_pos' (show 0<b by omega) (k+1)
 have p2:0<=d * b ^ (k+1):=Int.mul_nonneg (by omega) (by omega)
 refine ⟨by omega,?_⟩
 unfold mir
 rw [<-(dd_digs hb d1 d2 k).fg hb (by omega)]
 refine decide_eq_true ?_
 rw [List.reverse_cons,List.reverse_append,List.reverse_replicate]
 simp
theorem AM.half {b n m:Int} (hb:2<=b) (hn:1<=n) (h:AM b n m):n<=2 * m:=by
 have l0:=ln_pos hb (show 0<=n by omega)
 have l1:=ln_ge hb hn
 have l2:=ln_lt hb (show 0<=n by omega)
 by_cases hL:ln b n=1
 ·rw [hL,pow1] at l2
  have:=h.top n (mp_small (by omega) l2) (Int.le_refl _)
  omega
 ·obtain ⟨k,hk⟩:∃k,ln b n=k+2:=⟨ln b n - 2,by omega⟩
  rw [hk] at l1 l2
  have e1:k+2 - 1=k+1:=rfl
  rw [e1] at l1
  have p:=pow_pos' (show 0<b by omega) (k+1)
  have p2:b<=b ^ (k+1):=by
   have:=pow_le (show 1<=b by omega) (show 1<=k+1 by omega)
   rw [pow1] at this;omega
  generalize hP:b ^ (k+1)=P at *
  have l3:n<b * P:=by rw [<-hP,Int.mul_comm,<-Int.pow_succ];exact l2
  have q1:=Int.mul_ediv_add_emod n P
  have q2:=Int.emod_lt_of_pos n p
  have q3:=Int.emod_nonneg n (show P≠0 by omega)
  have d1:1<=n / P:=(Int.le_ediv_iff_mul_le p).mpr (by omega)
  have d2:n / P<b:=Int.ediv_lt_of_lt_mul p l3
  generalize hd:n / P=d at *
  have hx:P * d=d * P:=Int.mul_comm _ _
  have x1:P<=d * P:=by
   have:=Int.mul_le_mul_of_nonneg_right d1 (show 0<=P by omega);omega
  have M1:Mp b (d * P+d):=by rw [<-hP];exact dd_mp hb d1 d2 k
  by_cases c:d * P+d<=n
  ·have:=h.top _ M1 c
   omega
  ·by_cases d3:d=1
   ·subst d3
    have h1:=nines_mp hb (k+1)
    rw [hP] at h1
    have:=h.top _ h1 (by omega)
    omega
   ·have M2:Mp b ((d - 1) * P+(d - 1)):=by rw [<-hP];exact dd_mp hb (by omega) (by omega) k
    have e2:(d - 1) * P=d * P - P:=by rw [Int.sub_mul,Int.one_mul]
    rw [e2] at M2
    have x2:2 * P<=d * P:=Int.mul_le_mul_of_nonneg_right (by omega) (by omega)
    have:=h.top _ M2 (by omega)
    omega
theorem AM.one {b n m:Int} (hb:2<=b) (hn:1<=n) (h:AM b n m):1<=m:=h.top 1 (mp_small (by decide) (by omega)) hn
inductive Fw (b:Int):Int->List Int->Prop
 | nil:Fw b 0 []
 | cons {n m:Int} {L:List Int}:1<=n->AM b n m->Fw b (n - m) L->Fw b n (m::L)
theorem Fw.nn {b n:Int} {L:List Int} (h:Fw b n L):0<=n:=by
 cases h with
 | nil=>omega
 | cons h _ _=>omega
theorem Fw.zero {b n:Int} (h:Fw b n []):n=0:=by cases h;rfl
theorem Fw.sum {b n:Int} {L:List Int} (h:Fw b n L):L.sum=n:=by
 induction h with
 | nil=>rfl
 | cons _ _ _ ih=>rw [List.sum_cons,ih];omega
theorem Fw.all {b n:Int} (hb:2<=b) {L:List Int} (h:Fw b n L):∀x∈L,1<=x/\mir b x=true/\x<=n:=by
 induction h with
 | nil=>intro x hx;simp at hx
 | cons h1 h2 h3 ih=>
  intro x hx
  rcases List.mem_cons.mp hx with rfl|hx
  ·exact ⟨h2.one hb h1,h2.mp.2,h2.le⟩
  ·obtain ⟨a1,a2,a3⟩:=ih x hx
   have:=h2.one hb h1
   exact ⟨a1,a2,by omega⟩
theorem Fw.fall {b n:Int} (hb:2<=b) {L:List Int} (h:Fw b n L):∀i,i+1<L.length->L.getD (i+1) 0<=L.getD i 0:=by
 induction h with
 | nil=>intro i hi;simp at hi
 | @cons n m L h1 h2 h3 ih=>
  intro i hi
  cases i with
  | zero=>
   cases L with
   | nil=>simp at hi
   | cons x L=>
    obtain ⟨a1,a2,a3⟩:=h3.all hb x (by simp)
    have:=h2.one hb h1
    exact h2.top x ⟨by omega,a2⟩ (by omega)
  | succ i=>exact ih i (by simpa using hi)
theorem Fw.one {b n:Int} (hb:2<=b) (hn:1<=n) {m:Int} {L:List Int} (h:Fw b n (m::L)):(L=[] ↔ mir b n=true):=by
 cases h with
 | cons h1 h2 h3=>
  constructor
  ·intro e
   subst e
   have e:=h3.zero
   have:m=n:=by omega
   rw [<-this];exact h2.mp.2
  ·intro e
   have:=h2.top n ⟨by omega,e⟩ (Int.le_refl _)
   have:=h2.le
   have e:n - m=0:=by omega
   rw [e] at h3
   cases h3 with
   | nil=>rfl
   | cons h _ _=>omega
def tw (b n:Int):List Int:=(mto b (n / 2)).filter fun x=>mir b (n - x)
theorem mem_tw {b n x:Int} (hn:0<=n):x∈tw b n ↔ (1<=x/\x<=n / 2/\mir b x=true)/\mir b (n - x)=true:=by
 unfold tw
 rw [List.mem_filter,mem_mto (by omega)]
theorem tw_sorted (b n:Int):(tw b n).Pairwise (·<·):=(mto_sorted b (n / 2)).filter _
theorem range_getD (xs:List Int):(List.range xs.length).map (fun i=>xs.getD i 0)=xs:=by
 apply List.ext_getElem?
 intro i
 rw [List.getElem?_map]
 by_cases h:i<xs.length
 ·rw [List.getElem?_range h,List.getElem?_eq_getElem h]
  show some (xs.getD i 0)=some xs[i]
  rw [List.getD_eq_getElem?_getD,List.getElem?_eq_getElem h];rfl
 ·rw [List.getElem?_eq_none (by simpa using h),List.getElem?_eq_none (by omega)];rfl
theorem filter_range {α:Type} (t:Int->Bool) (f:Int->α) (xs:List Int):((List.range xs.length).filter (fun i=>t (xs.getD i 0))).map (fun i=>f (xs.getD i 0))=(xs.filter t).map f:=by
 have h:(xs.filter t).map f=(((List.range xs.length).map (fun i=>xs.getD i 0)).filter t).map f:=by rw [range_getD]
 rw [h,List.filter_map,List.map_map]
 rfl
theorem few_two {b n m r:Int} (hb:2<=b) (h:Fw b n [m,r]):r∈tw b n/\n - r=m/\∀x∈tw b n,r<=x:=by
 have n0:=h.nn
 have sm:=h.sum
 simp at sm
 have fl:r<=m:=h.fall hb 0 (by simp)
 obtain ⟨a1,a2,a3⟩:=h.all hb r (by simp)
 obtain ⟨c1,c2,c3⟩:=h.all hb m (by simp)
 have am:AM b n m:=by cases h with|cons _ h2 _=>exact h2
 have e:n - r=m:=by omega
 refine ⟨(mem_tw n0).mpr ⟨⟨a1,by omega,a2⟩,by rw [e];exact c2⟩,e,fun x hx=>?_⟩
 obtain ⟨⟨x1,x2,x3⟩,x4⟩:=(mem_tw n0).mp hx
 have:=am.top (n - x) ⟨by omega,x4⟩ (by omega)
 omega
end M
set_option maxHeartbeats 4000000
local macro_rules | `(tactic| simp only [L2.QL]) => `(tactic| first | exact Or.inl rfl | exact Or.inr rfl)
def L2.qD:="~qVar ~qC ~q2 ~q20 ~q1 ~qTest ~qEq ~qChain ~qAnd ~qOr ~qNot ~qAndV ~qNotV ~qIf ~qFz ~nVal ~qNil ~qCons ~nLst ~qTup ~qIx ~qoNone ~qoSome ~nSl ~nRev ~nCat ~nRep ~qLen ~qSum ~qI2 ~qDivmod ~qToI ~qIsi ~qApp ~qRevM ~qNext ~qDrop ~qRet ~qRetO ~qIfS ~qSet ~qSetN ~qAug ~qSetI ~qAsg ~gqName ~gkName ~gqNil ~gqCons ~gqTup ~iqR1 ~iqR2 ~iqL ~qYes ~nCall ~nListEn ~Sl.ev ~Sl.val ~Sl.mu ~Sl.put ~Rt.val ~Rt.sl ~lk ~fzs ~seqOf ~toI ~argOf ~argsOf ~owIx ~back ~outs ~startP ~isTy ~vLift ~vSet ~qOfV ~vDicT ~vPutK ~vPutT ~qLenT ~qInT ~gqTupL List.map_cons List.map_nil List.length_cons List.length_nil List.replicate_succ List.replicate_zero List.cons_append List.nil_append List.getElem?_cons_zero List.getElem?_cons_succ List.getElem?_nil List.set_cons_zero List.set_cons_succ List.drop_succ_cons List.drop_zero"
def L2.qL:="↓~ex_ss ↓~ex_int ↓~ex_int2 ↓~ex_bl ↓~ex_fz ↓~ex_fzl ↓~ex_some ↓~ex_lst ↓~ex_own ↓~ex_tup ↓~ex_e1 ↓~ss_and ~qVar ~qC ~q2 ~q20 ~q1 ~qTest ~qEq ~qChain ~qAnd ~qOr ~qNot ~qAndV ~qNotV ~qIf ~qFz ~nVal ~qNil ~qCons ~nLst ~qTup ~qIx ~qoNone ~qoSome ~nSl ~nRev ~nCat ~nRep ~qLen ~qSum ~qI2 ~qDivmod ~qToI ~qIsi ~qApp ~qRevM ~qNext ~qDrop ~qRet ~qRetO ~qIfS ~qSet ~qSetN ~qAug ~qSetI ~qAsg ~gqName ~gkName ~gqNil ~gqCons ~gqTup ~iqR1 ~iqR2 ~iqL ~qYes ~nCall ~nListEn ~tr2 ~Sl.ev ~Sl.val ~Sl.mu ~Sl.put ~Rt.val ~Rt.sl ~lk ~fzs ~seqOf ~toI ~argOf ~argsOf ~owIx ~back ~outs ~startP ~isTy ~eqd_int ~eqd_bl ~eqd_str ~eqd_ints ~deq_int ~deq_bl ~deq_str ~deq_ints ~deq_self ~D.int.injEq ~D.bl.injEq ~D.str.injEq ~D.lst.injEq ~D.tup.injEq ~D.atom.injEq ~Ev.fz.injEq ~Ev.ow.injEq Option.some.injEq List.cons.injEq exists_eq_left exists_eq_left' exists_eq_right exists_and_left exists_const exists_eq_right' exists_false false_and and_false List.map_cons List.map_nil List.length_cons List.length_nil Nat.reduceAdd Nat.reduceSub List.replicate_succ List.replicate_zero List.cons_append List.nil_append List.append_nil List.getElem?_cons_zero List.getElem?_cons_succ List.getElem?_nil List.set_cons_zero List.set_cons_succ List.drop_succ_cons List.drop_zero Bool.not_true Bool.not_false Bool.false_eq_true if_true if_false ite_true ite_false eq_self true_and and_true decide_eq_true_eq List.nodup_nil List.nodup_cons List.not_mem_nil not_false_eq_true Option.isSome_some reduceCtorEq ~CMul ~CMod ~CPow ~CDiv ~CDivQ Int.reduceToNat Int.reducePow Int.reduceLT Int.reduceLE Int.reduceNeg Nat.reduceLeDiff Int.reduceMul Int.reduceAdd Int.reduceSub Int.reduceEq Int.zero_add Int.reduceAbs Int.reduceNe Nat.reduceLT Nat.reducePow Int.cast_ofNat_Int or_true true_or Bool.not_eq_true' decide_eq_false_iff_not Bool.true_and Bool.and_true Bool.false_and Bool.and_false decide_true decide_false ~Sl.d.injEq ~Sl.bor.injEq ~Sl.own.injEq ~Rt.rd.injEq ~Rt.ro.injEq String.reduceBEq String.reduceEq String.reduceBNe Bool.or_true Bool.or_false Bool.true_or Bool.false_or ~atl_0 ~atl_1 ~atl_2 ~atl_3 ~ixl_20 ~ixl_21 ite_not implies_true exists_eq exists_eq' ~nb_s ~nb_n ~nb_d ~nb_o ~nb_u ~mu_s ~mu_n ~mu_d ~mu_o ~mu_b ~mu_u ~pu_s ~pu_0 and_assoc ~seqL ~deq_scr0 ~eqd_scr0 ~eqd_l0 ~deq_l0 ~eqd_l1 ~deq_l1 ~nb_a ~eqd_00 ~D.scr.injEq ~vLift ~vSet ~V.ref.injEq ~V.int.injEq ~HO.lst.injEq ~qOfV ~VEnds.of ~vDicT ~vPutK ~vPutT ~kOf ~ksOf ~flaV ~qLenT ~qInT ~gqTupL"
def L2.qS(s:String):List String:=(s.splitOn " ").map (·.replace "~" "_root_.L2.")
local macro_rules | `(tactic| simp only [Q, $xs,*]) => do { let ds ← (L2.qS L2.qD).toArray.mapM fun x => if x.startsWith "↓" then `(Lean.Parser.Tactic.simpLemma| ↓ $(Lean.mkIdent (x.drop 1).toName):ident) else `(Lean.Parser.Tactic.simpLemma| $(Lean.mkIdent x.toName):ident); let ys ← (L2.qS (L2.qL ++ " ~qSeq ~vSeq")).toArray.mapM fun x => if x.startsWith "↓" then `(Lean.Parser.Tactic.simpLemma| ↓ $(Lean.mkIdent (x.drop 1).toName):ident) else `(Lean.Parser.Tactic.simpLemma| $(Lean.mkIdent x.toName):ident); `(tactic| ((try dsimp only [$ds,*]); (try simp only [$xs,*, $ys,*]))) }
local macro_rules | `(tactic| simp only [Q]) => do { let ds ← (L2.qS L2.qD).toArray.mapM fun x => if x.startsWith "↓" then `(Lean.Parser.Tactic.simpLemma| ↓ $(Lean.mkIdent (x.drop 1).toName):ident) else `(Lean.Parser.Tactic.simpLemma| $(Lean.mkIdent x.toName):ident); let ys ← (L2.qS (L2.qL ++ " ~qSeq ~vSeq")).toArray.mapM fun x => if x.startsWith "↓" then `(Lean.Parser.Tactic.simpLemma| ↓ $(Lean.mkIdent (x.drop 1).toName):ident) else `(Lean.Parser.Tactic.simpLemma| $(Lean.mkIdent x.toName):ident); `(tactic| ((try dsimp only [$ds,*]); (try simp only [$ys,*]))) }
local macro_rules | `(tactic| simp only [R, $xs,*]) => do { let ds ← (L2.qS L2.qD).toArray.mapM fun x => if x.startsWith "↓" then `(Lean.Parser.Tactic.simpLemma| ↓ $(Lean.mkIdent (x.drop 1).toName):ident) else `(Lean.Parser.Tactic.simpLemma| $(Lean.mkIdent x.toName):ident); let ys ← (L2.qS (L2.qL)).toArray.mapM fun x => if x.startsWith "↓" then `(Lean.Parser.Tactic.simpLemma| ↓ $(Lean.mkIdent (x.drop 1).toName):ident) else `(Lean.Parser.Tactic.simpLemma| $(Lean.mkIdent x.toName):ident); `(tactic| ((try dsimp only [$ds,*]); (try simp only [$xs,*, $ys,*]))) }
local macro_rules | `(tactic| simp only [R]) => do { let ds ← (L2.qS L2.qD).toArray.mapM fun x => if x.startsWith "↓" then `(Lean.Parser.Tactic.simpLemma| ↓ $(Lean.mkIdent (x.drop 1).toName):ident) else `(Lean.Parser.Tactic.simpLemma| $(Lean.mkIdent x.toName):ident); let ys ← (L2.qS (L2.qL)).toArray.mapM fun x => if x.startsWith "↓" then `(Lean.Parser.Tactic.simpLemma| ↓ $(Lean.mkIdent (x.drop 1).toName):ident) else `(Lean.Parser.Tactic.simpLemma| $(Lean.mkIdent x.toName):ident); `(tactic| ((try dsimp only [$ds,*]); (try simp only [$ys,*]))) }
namespace K18
open PySem L2
def top (i:Nat):Stmt:=PySem.Challenge.pw_mirrorsums_k18_whole_sums_counted.main.body.getD i (.Pass ⟨0,0,0,0⟩)
structure Txt (mg:Str->Option Value):Prop where
 z_isinstance:mg "isinstance"=none
 z_int:mg "int"=none
 z_bool:mg "bool"=none
 z_list:mg "list"=none
 z_len:mg "len"=none
 z_sum:mg "sum"=none
 z_range:mg "range"=none
 z_enumerate:mg "enumerate"=none
 z_min:mg "min"=none
 z_max:mg "max"=none
 z_divmod:mg "divmod"=none
 c_LEAST_BASE:∃t,mg "LEAST_BASE"=some (.int 2 t)
 c_GREATEST_BASE:∃t,mg "GREATEST_BASE"=some (.int 36 t)
abbrev s_is_whole:Stmt:=top 7
abbrev A_is_whole (K:PySem.W.Frag) (mg:Str->Option Value):=DefAt K mg "is_whole" s_is_whole ["thing"]
theorem sc_is_whole:FnScope ["thing"] ["thing"] (defScope s_is_whole):=⟨rfl,rfl,rfl,by decide +kernel,rfl,by decide +kernel,by decide +kernel⟩
abbrev s_check_base:Stmt:=top 8
abbrev A_check_base (K:PySem.W.Frag) (mg:Str->Option Value):=DefAt K mg "check_base" s_check_base ["thing"]
theorem sc_check_base:FnScope ["thing"] ["thing"] (defScope s_check_base):=⟨rfl,rfl,rfl,by decide +kernel,rfl,by decide +kernel,by decide +kernel⟩
abbrev s_law_hand:Stmt:=top 29
abbrev A_law_hand (K:PySem.W.Frag) (mg:Str->Option Value):=DefAt K mg "_law_hand" s_law_hand ["cell","k"]
theorem sc_law_hand:FnScope ["cell","k","digits"] ["cell","k"] (defScope s_law_hand):=⟨rfl,rfl,rfl,by decide +kernel,rfl,by decide +kernel,by decide +kernel⟩
abbrev s_law_draw:Stmt:=top 30
abbrev A_law_draw (K:PySem.W.Frag) (mg:Str->Option Value):=DefAt K mg "_law_draw" s_law_draw ["hand","limit"]
theorem sc_law_draw:FnScope ["hand","limit","got"] ["hand","limit"] (defScope s_law_draw):=⟨rfl,rfl,rfl,by decide +kernel,rfl,by decide +kernel,by decide +kernel⟩
abbrev s_law_power:Stmt:=top 33
theorem sc_law_power:FnScope ["base","many","found","turn"] ["base","many"] (defScope s_law_power):=⟨rfl,rfl,rfl,by decide +kernel,rfl,by decide +kernel,by decide +kernel⟩
section
variable {P:Program} {w:World} {K:PySem.W.Frag} {mg:Str->Option Value} {base:Heap}
theorem seq_goK {t R:TSQ} {E:PEnds} {p:PSt} (h:∀k:PSt->Prop,(∀p',R E p'->k p')->t { E with nx:=k } p):qSeq t R E p:=h (R E) (fun _ h=>h)
def S_is_whole:PSp:=fun as R=>∃x a b,as=[.d x]/\isTy "int" x=some a/\isTy "bool" x=some b/\R (.rd (.bl (a && !b))) as
theorem ok_is_whole (T:Txt mg) (Df:A_is_whole K mg):FnOk P w K mg base CX0 1 Df.f Df.fd ["thing"] (spOf K S_is_whole):=by
 refine Df.F.okP sc_is_whole (fun as R h=>?_) (fun cdv A outer s H E C as R hK hr h=>?_)
 ·obtain ⟨_,_,_,rfl,_⟩:=h;rfl
 have hu:=hr.units
 obtain ⟨x,a,b,rfl,h1,h2,q⟩:=h
 refine ⟨_,(s_one (s_ret (n_val (q_andV (cb_isi (T:="int") hK (by first|exact .inl rfl|exact .inr (.inl rfl)|exact .inr (.inr (.inl rfl))|exact .inr (.inr (.inr (.inl rfl)))|exact .inr (.inr (.inr (.inr rfl)))) rfl T.z_isinstance (a_cons (q_var (pv 0)) (a_cons (q_c (pe_bltn (v:=.ty "int") rfl T.z_int (by kernel_rfl) rfl) (fun _=>.atom _)) a_nil))) (q_one (q_notV (cb_isi (T:="bool") hK (by first|exact .inl rfl|exact .inr (.inl rfl)|exact .inr (.inr (.inl rfl))|exact .inr (.inr (.inr (.inl rfl)))|exact .inr (.inr (.inr (.inr rfl)))) rfl T.z_isinstance (a_cons (q_var (pv 0)) (a_cons (q_c (pe_bltn (v:=.ty "bool") rfl T.z_bool (by kernel_rfl) rfl) (fun _=>.atom _)) a_nil))))))))),?_⟩;simp only [Q,and_assoc]
 cases x<;>first|(cases h1;done)|skip
 all_goals (cases h1;cases h2;simp only [Q])
 all_goals first|exact q|exact ⟨_,rfl,q⟩
def S_check_base:PSp:=fun as R=>∃b:Int,as=[.d (.int b)]/\2<=b/\b<=36/\R (.rd .non) as
theorem ok_check_base (T:Txt mg) (Df:A_check_base K mg) (D_is_whole:A_is_whole K mg):FnOk P w K mg base CX0 2 Df.f Df.fd ["thing"] (spOf K S_check_base):=by
 have G_is_whole:=ok_is_whole (P:=P) (w:=w) (base:=base) T D_is_whole
 obtain ⟨t_LEAST_BASE,c_LEAST_BASE⟩:=T.c_LEAST_BASE
 obtain ⟨t_GREATEST_BASE,c_GREATEST_BASE⟩:=T.c_GREATEST_BASE
 refine Df.F.okP sc_check_base (fun as R h=>?_) (fun cdv A outer s H E C as R hK hr h=>?_)
 ·obtain ⟨_,rfl,_⟩:=h;rfl
 have hu:=hr.units
 obtain ⟨b,rfl,b0,b1,q⟩:=h
 refine ⟨_,(s_one (s_if (PW.pt (w_or (t_not (t_val (q_fz (n_call hK D_is_whole G_is_whole (hr.mono (by first|decide|omega)) (a_cons (q_var (pv 0)) a_nil))))) (w_or1 (t_not (t_chain op_le op_le (q_c (pe_glob (v:=.int 2) rfl c_LEAST_BASE ⟨_,rfl⟩) (fun _=>.int _)) (q_var (pv 0)) (q_c (pe_glob (v:=.int 36) rfl c_GREATEST_BASE ⟨_,rfl⟩) (fun _=>.int _))))))) (s_one s_never) s_nil)),?_⟩;simp only [Q,and_assoc,S_is_whole]
 rw [if_pos b0,if_pos b1]
 exact q
def HandD (h:List D):Prop:=∃d r:Int,h=[.int d,.int r]/\0<=r/\r<2147483587
def S_law_hand:PSp:=fun as R=>∃c k:Int,as=[.d (.int c),.d (.int k)]/\∀h,HandD h->R (.ro h) as
theorem ok_law_hand (T:Txt mg) (Df:A_law_hand K mg):FnOk P w K mg base CX0 1 Df.f Df.fd ["cell","k"] (spOf K S_law_hand):=by
 refine Df.F.okP sc_law_hand (fun as R h=>?_) (fun cdv A outer s H E C as R hK hr h=>?_)
 ·obtain ⟨_,_,rfl,_⟩:=h;rfl
 have hu:=hr.units
 obtain ⟨c,k,rfl,q⟩:=h
 refine ⟨_,(s_cons (s_set (i:=2) sc_law_hand.nd rfl (by simp only [L2.QL]) (q_c pe_int (fun _=>.int _)))
    (s_cons (s_if (t_ge (q_var (pv 0)) (q_pow (q_c pe_int (fun _=>.int _)) (q_c pe_int (fun _=>.int _)))) (s_one (s_set (i:=2) sc_law_hand.nd rfl (by simp only [L2.QL]) (q_var (pv 0)))) s_nil)
    (s_one (s_ret (n_lst (a_cons (q_var (pv 2)) (a_cons (q_mod (q_mul (q_add (q_add (q_mod (q_var (pv 0)) (q_c pe_int (fun _=>.int _))) (q_mul (q_c pe_int (fun _=>.int _)) (q_var (pv 1)))) (q_c pe_int (fun _=>.int _))) (q_c pe_int (fun _=>.int _))) (q_c pe_int (fun _=>.int _))) a_nil))))))),?_⟩;simp only [Q,and_assoc]
 refine ite2 (fun c=>?_) (fun c=>?_)
 all_goals exact q _ ⟨_,_,rfl,Int.emod_nonneg _ (by decide),Int.emod_lt_of_pos _ (by decide)⟩
def S_law_draw:PSp:=fun as R=>∃(h:List D) (m:Int),as=[.bor h,.d (.int m)]/\HandD h/\0<m/\m<1073741824/\∀(g:Int) h',0<=g->g<m->HandD h'->R (.rd (.int g)) [.bor h',.d (.int m)]
theorem ok_law_draw (T:Txt mg) (Df:A_law_draw K mg):FnOk P w K mg base CX0 1 Df.f Df.fd ["hand","limit"] (spOf K S_law_draw):=by
 refine Df.F.okP sc_law_draw (fun as R h=>?_) (fun cdv A outer s H E C as R hK hr h=>?_)
 ·obtain ⟨_,_,rfl,_⟩:=h;rfl
 have hu:=hr.units
 obtain ⟨h,m,rfl,⟨d,r,rfl,r0,r1⟩,m0,m1,q⟩:=h
 refine ⟨_,(s_cons (s_if (t_gt (q_ix hK (q_var (pv 0)) (q_c pe_int (fun _=>.int _)) (fun _ _=>rfl)) (q_c pe_int (fun _=>.int _))) (s_cons (s_set (i:=2) sc_law_draw.nd rfl (by simp only [L2.QL]) (q_mod (q_ix hK (q_var (pv 0)) (q_c pe_int (fun _=>.int _)) (fun _ _=>rfl)) (q_var (pv 1))))
    (s_cons (s_setI (i:=0) (q_fdiv (q_ix hK (q_var (pv 0)) (q_c pe_int (fun _=>.int _)) (fun _ _=>rfl)) (q_var (pv 1))) (pv 0) (q_c pe_int (fun _=>.int _)))
    (s_one (s_ret (n_val (q_var (pv 2))))))) s_nil)
    (s_cons (s_setI (i:=0) (q_mod (q_add (q_add (q_mul (q_ix hK (q_var (pv 0)) (q_c pe_int (fun _=>.int _)) (fun _ _=>rfl)) (q_ix hK (q_var (pv 0)) (q_c pe_int (fun _=>.int _)) (fun _ _=>rfl))) (q_mul (q_c pe_int (fun _=>.int _)) (q_ix hK (q_var (pv 0)) (q_c pe_int (fun _=>.int _)) (fun _ _=>rfl)))) (q_c pe_int (fun _=>.int _))) (q_c pe_int (fun _=>.int _))) (pv 0) (q_c pe_int (fun _=>.int _)))
    (s_one (s_ret (n_val (q_mod (q_fdiv (q_ix hK (q_var (pv 0)) (q_c pe_int (fun _=>.int _)) (fun _ _=>rfl)) (q_c pe_int (fun _=>.int _))) (q_var (pv 1)))))))),?_⟩;simp only [Q,and_assoc]
 refine ite2 (fun c=>?_) (fun c=>?_)
 ·exact ⟨m0,m0,.inl (by omega),q _ _ (Int.emod_nonneg _ (by omega)) (Int.emod_lt_of_pos _ m0) ⟨_,_,rfl,r0,r1⟩⟩
 ·exact ⟨by omega,m0,q _ _ (Int.emod_nonneg _ (by omega)) (Int.emod_lt_of_pos _ m0) ⟨_,_,rfl,Int.emod_nonneg _ (by decide),Int.emod_lt_of_pos _ (by decide)⟩⟩
def S_law_power:PSp:=fun as R=>∃(b:Int) (m:Int),as=[.d (.int b),.d (.int m)]/\0<=b/\b<=36/\m<100000/\-100<m/\R (.rd (.int (b ^ m.toNat))) as
theorem ok_law_power (T:Txt mg) (Df:DefAt K mg "_law_power" s_law_power ["base","many"]):FnOk P w K mg base CX0 1 Df.f Df.fd ["base","many"] (spOf K S_law_power):=by
 refine Df.F.okP sc_law_power (fun as R h=>?_) (fun cdv A outer s H E C as R hK hr h=>?_)
 ·obtain ⟨_,_,rfl,_⟩:=h;rfl
 have hu:=hr.units
 obtain ⟨b,m,rfl,b0,b1,m0,m1,q⟩:=h
 refine ⟨_,(s_cons (s_set (i:=2) sc_law_power.nd rfl (by simp only [L2.QL]) (q_c pe_int (fun _=>.int _)))
    (s_cons (s_for PassesOwn.never rfl (i_range1 rfl T.z_range (a_cons (q_var (pv 1)) a_nil)) (g_name (i:=3) sc_law_power.nd rfl (by simp only [L2.QL])) (s_one (s_set (i:=2) sc_law_power.nd rfl (by simp only [L2.QL]) (q_mul (q_var (pv 2)) (q_var (pv 0))))))
    (s_one (s_ret (n_val (q_var (pv 2))))))),?_⟩;simp only [Q,and_assoc]
 obtain ⟨I,hI⟩:∃I:Nat->PSt->Prop,I=(fun i p=>∃v,p=[some (.d (.int b)),some (.d (.int m)),some (.d (.int (b ^ i))),Option.map Sl.d v]):=⟨_,rfl⟩
 refine for_q (n:=m.toNat) (item:=fun i=>.int i) (p1:=_) (fun Q h=>by simp only [Q];exact ⟨by omega,by omega,h⟩) I (by rw [hI];exact ⟨none,by rw [Int.pow_zero];rfl⟩) ?_ ?_
 ·intro i p hi hp
  rw [hI] at hp
  obtain ⟨v,rfl⟩:=hp
  simp only [Q]
  refine ⟨by omega,by rw [hI];exact ⟨some (.int i),by rw [Int.pow_succ];rfl⟩⟩
 ·intro p hp
  rw [hI] at hp
  obtain ⟨v,rfl⟩:=hp
  simp only [Q]
  exact q
end
abbrev s_power:Stmt:=top 12
abbrev A_power (K:PySem.W.Frag) (mg:Str->Option Value):=DefAt K mg "power" s_power ["base","many"]
theorem sc_power:FnScope ["base","many","product","step"] ["base","many"] (defScope s_power):=⟨rfl,rfl,rfl,by decide +kernel,rfl,by decide +kernel,by decide +kernel⟩
abbrev s_least_front:Stmt:=top 13
abbrev A_least_front (K:PySem.W.Frag) (mg:Str->Option Value):=DefAt K mg "least_front" s_least_front ["length","base"]
theorem sc_least_front:FnScope ["length","base"] ["length","base"] (defScope s_least_front):=⟨rfl,rfl,rfl,by decide +kernel,rfl,by decide +kernel,by decide +kernel⟩
abbrev s_front_of:Stmt:=top 14
abbrev A_front_of (K:PySem.W.Frag) (mg:Str->Option Value):=DefAt K mg "front_of" s_front_of ["number","length","base"]
theorem sc_front_of:FnScope ["number","length","base"] ["number","length","base"] (defScope s_front_of):=⟨rfl,rfl,rfl,by decide +kernel,rfl,by decide +kernel,by decide +kernel⟩
abbrev s_from_front:Stmt:=top 15
abbrev A_from_front (K:PySem.W.Frag) (mg:Str->Option Value):=DefAt K mg "from_front" s_from_front ["front","length","base"]
theorem sc_from_front:FnScope ["front","length","base","mirrored","left","figure"] ["front","length","base"] (defScope s_from_front):=⟨rfl,rfl,rfl,by decide +kernel,rfl,by decide +kernel,by decide +kernel⟩
section
variable {P:Program} {w:World} {K:PySem.W.Frag} {mg:Str->Option Value} {base:Heap}
def S_power:PSp:=fun as R=>∃(b:Int) (m:Int),as=[.d (.int b),.d (.int m)]/\0<=b/\b<=36/\m<100000/\-100<m/\R (.rd (.int (b ^ m.toNat))) as
theorem ok_power (T:Txt mg) (Df:A_power K mg):FnOk P w K mg base CX0 1 Df.f Df.fd ["base","many"] (spOf K S_power):=by
 refine Df.F.okP sc_power (fun as R h=>?_) (fun cdv A outer s H E C as R hK hr h=>?_)
 ·obtain ⟨_,_,rfl,_⟩:=h;rfl
 have hu:=hr.units
 obtain ⟨b,m,rfl,b0,b1,m0,m1,q⟩:=h
 refine ⟨_,(s_cons (s_set (i:=2) sc_power.nd rfl (by simp only [L2.QL]) (q_c pe_int (fun _=>.int _)))
    (s_cons (s_for PassesOwn.never rfl (i_range1 rfl T.z_range (a_cons (q_var (pv 1)) a_nil)) (g_name (i:=3) sc_power.nd rfl (by simp only [L2.QL])) (s_one (s_imul (i:=2) sc_power.nd rfl (by simp only [L2.QL]) (q_var (pv 0)))))
    (s_one (s_ret (n_val (q_var (pv 2))))))),?_⟩;simp only [Q,and_assoc]
 obtain ⟨I,hI⟩:∃I:Nat->PSt->Prop,I=(fun i p=>∃v,p=[some (.d (.int b)),some (.d (.int m)),some (.d (.int (b ^ i))),Option.map Sl.d v]):=⟨_,rfl⟩
 refine for_q (n:=m.toNat) (item:=fun i=>.int i) (p1:=_) (fun Q h=>by simp only [Q];exact ⟨by omega,by omega,h⟩) I (by rw [hI];exact ⟨none,by rw [Int.pow_zero];rfl⟩) ?_ ?_
 ·intro i p hi hp
  rw [hI] at hp
  obtain ⟨v,rfl⟩:=hp
  simp only [Q]
  refine ⟨by omega,by rw [hI];exact ⟨some (.int i),by rw [Int.pow_succ];rfl⟩⟩
 ·intro p hp
  rw [hI] at hp
  obtain ⟨v,rfl⟩:=hp
  simp only [Q]
  exact q
def S_least_front:PSp:=fun as R=>∃(L:Nat) (b:Int),as=[.d (.int (L:Int)),.d (.int b)]/\0<=b/\b<=36/\L<=90000/\R (.rd (.int (b ^ (M.hf L - 1)))) as
theorem ok_least_front (T:Txt mg) (Df:A_least_front K mg) (D_power:A_power K mg):FnOk P w K mg base CX0 2 Df.f Df.fd ["length","base"] (spOf K S_least_front):=by
 have G_power:=ok_power (P:=P) (w:=w) (base:=base) T D_power
 refine Df.F.okP sc_least_front (fun as R h=>?_) (fun cdv A outer s H E C as R hK hr h=>?_)
 ·obtain ⟨_,_,rfl,_⟩:=h;rfl
 have hu:=hr.units
 obtain ⟨L,b,rfl,b0,b1,l1,q⟩:=h
 refine ⟨_,(s_one (s_ret (n_call hK D_power G_power (hr.mono (by first|decide|omega)) (a_cons (q_var (pv 1)) (a_cons (q_sub (q_fdiv (q_add (q_var (pv 0)) (q_c pe_int (fun _=>.int _))) (q_c pe_int (fun _=>.int _))) (q_c pe_int (fun _=>.int _))) a_nil))))),?_⟩;simp only [Q,and_assoc,S_power]
 have e:(((L:Int)+1) / 2 - 1).toNat=M.hf L - 1:=by unfold M.hf;omega
 rw [e]
 exact ⟨b0,b1,by omega,by omega,q⟩
def S_front_of:PSp:=fun as R=>∃(n:Int) (L:Nat) (b:Int),as=[.d (.int n),.d (.int (L:Int)),.d (.int b)]/\2<=b/\b<=36/\L<=90000/\b ^ (L / 2)<2 ^ 4000/\R (.rd (.int (n / b ^ (L / 2)))) as
theorem ok_front_of (T:Txt mg) (Df:A_front_of K mg) (D_power:A_power K mg):FnOk P w K mg base CX0 2 Df.f Df.fd ["number","length","base"] (spOf K S_front_of):=by
 have G_power:=ok_power (P:=P) (w:=w) (base:=base) T D_power
 refine Df.F.okP sc_front_of (fun as R h=>?_) (fun cdv A outer s H E C as R hK hr h=>?_)
 ·obtain ⟨_,_,_,rfl,_⟩:=h;rfl
 have hu:=hr.units
 obtain ⟨n,L,b,rfl,b0,b1,l1,hp,q⟩:=h
 refine ⟨_,(s_one (s_ret (n_val (q_fdiv (q_var (pv 0)) (q_fz (n_call hK D_power G_power (hr.mono (by first|decide|omega)) (a_cons (q_var (pv 2)) (a_cons (q_fdiv (q_var (pv 1)) (q_c pe_int (fun _=>.int _))) a_nil)))))))),?_⟩;simp only [Q,and_assoc,S_power]
 have e:((L:Int) / 2).toNat=L / 2:=by omega
 rw [e]
 have p:=M.pow_pos' (show 0<b by omega) (L / 2)
 exact ⟨by omega,b1,by omega,by omega,p,.inr (Fits.of p hp (by decide)),q⟩
theorem and_one (L:Nat):Builtin.bitAnd (L:Int) 1=((L % 2:Nat):Int):=by
 rw [PyProof.Rows.bitAnd_pp (by omega) (by decide)]
 congr 1
 show (L &&& 1)=_
 exact Nat.and_one_is_mod L
def palz (b f:Int) (L:Nat):Int:=if f=0 then 0 else M.pal b f L
def S_from_front:PSp:=fun as R=>∃(f:Int) (L:Nat) (b:Int),as=[.d (.int f),.d (.int (L:Int)),.d (.int b)]/\2<=b/\b<=36/\L<=90000/\((f=0/\L=1)\/M.Fr b f L)/\R (.rd (.int (palz b f L))) as
theorem ok_from_front (T:Txt mg) (Df:A_from_front K mg):FnOk P w K mg base CX0 1 Df.f Df.fd ["front","length","base"] (spOf K S_from_front):=by
 refine Df.F.okP sc_from_front (fun as R h=>?_) (fun cdv A outer s H E C as R hK hr h=>?_)
 ·obtain ⟨_,_,_,rfl,_⟩:=h;rfl
 have hu:=hr.units
 obtain ⟨f,L,b,rfl,b0,b1,l1,hf,q⟩:=h
 -- the figures that come again
 obtain ⟨ts,hts,left0,hl0,hmod⟩:∃ts:List Int,((∀d∈ts,0<=d/\d<b)/\(ts=[]\/ts.head?≠some 0)/\(palz b f L=M.val b ts.reverse+f * b ^ ts.length))/\∃left0:Int,left0=M.val b ts/\(if L % 2=0 then f else f / b)=left0:=by
  rcases hf with ⟨rfl,rfl⟩|F
  ·exact ⟨[],⟨fun d hd=>absurd hd List.not_mem_nil,.inl rfl,by simp [palz,M.val]⟩,0,rfl,by simp⟩
  ·have d:=M.fg_digs b0 (show 0<=f by have:=F.pos;omega)
   have hl:=F.len
   have hd:=d.pos (by have:=F.pos;omega)
   have hL:=F.L1
   refine ⟨(M.fg b f).take (L / 2),⟨fun x hx=>d.rng x (List.mem_of_mem_take hx),?_,?_⟩,_,rfl,?_⟩
   ·match M.fg b f,L / 2,hd with
    | x::r,0,_=>exact .inl rfl
    | [],_,_=>exact .inl (by simp)
    | x::r,k+1,hd=>exact .inr (by simpa using hd)
   ·have hz:f≠0:=by have:=F.pos;omega
    unfold palz
    rw [if_neg hz]
    unfold M.pal
    rw [M.val_app,d.val,List.length_reverse]
    omega
   ·by_cases hp:L % 2=0
    ·rw [if_pos hp]
     have e:L / 2=(M.fg b f).length:=by rw [hl];unfold M.hf;omega
     rw [e,List.take_length,d.val]
    ·rw [if_neg hp]
     have e:L / 2=(M.fg b f).length - 1:=by rw [hl];unfold M.hf;omega
     have:=(M.front_val b0 d 1 (by rw [hl];unfold M.hf;omega)).1
     rw [Int.pow_succ,Int.pow_zero,Int.one_mul] at this
     rw [e];exact this
 obtain ⟨tr,th,tv⟩:=hts
 refine ⟨_,(s_cons (s_set (i:=3) sc_from_front.nd rfl (by simp only [L2.QL]) (q_var (pv 0)))
    (s_cons (s_set (i:=4) sc_from_front.nd rfl (by simp only [L2.QL]) (q_ifExp (t_eq hK hu (q_and (q_var (pv 1)) (q_c pe_int (fun _=>.int _))) (q_c pe_int (fun _=>.int _))) (q_var (pv 0)) (q_fdiv (q_var (pv 0)) (q_var (pv 2)))))
    (s_cons (s_while PassesOwn.never (t_gt (q_var (pv 4)) (q_c pe_int (fun _=>.int _))) (s_cons (s_asg (cb_divmod rfl T.z_divmod (a_cons (q_var (pv 4)) (a_cons (q_var (pv 2)) a_nil))) (g_tup (n:=2) hK rfl (gs_cons (g_name (i:=4) sc_from_front.nd rfl (by simp only [L2.QL])) (gs_cons (g_name (i:=5) sc_from_front.nd rfl (by simp only [L2.QL])) gs_nil))))
    (s_one (s_set (i:=3) sc_from_front.nd rfl (by simp only [L2.QL]) (q_add (q_mul (q_var (pv 3)) (q_var (pv 2))) (q_var (pv 5)))))))
    (s_one (s_ret (n_val (q_var (pv 3)))))))),?_⟩
 refine seq_goP ?_
 simp only [R]
 refine seq_cutP (fun p=>p=[some (.d (.int f)),some (.d (.int (L:Int))),some (.d (.int b)),some (.d (.int f)),some (.d (.int left0)),none]) (fun k hk=>?_) ?_
 ·simp only [Q]
  rw [and_one]
  refine ite2 (fun c=>?_) (fun c=>?_)
  ·rw [if_pos (by omega)] at hmod
   rw [<-hmod] at hk
   exact hk _ rfl
  ·rw [if_neg (by omega)] at hmod
   rw [<-hmod] at hk
   exact ⟨by omega,.inl (by omega),hk _ rfl⟩
 rintro p rfl
 refine seq_goP ?_
 obtain ⟨I,hI⟩:∃I:PSt->Prop,I=(fun p=>∃(us vs:List Int) (v:Option D),ts=us++vs/\p=[some (.d (.int f)),some (.d (.int (L:Int))),some (.d (.int b)),some (.d (.int (f * b ^ vs.length+M.val b vs.reverse))),some (.d (.int (M.val b us))),Option.map Sl.d v]):=⟨_,rfl⟩
 refine while_q I (fun p=>match p[4]? with|some (some (Sl.d (D.int r)))=>r.toNat|_=>0) (by rw [hI];exact ⟨ts,[],none,by simp,by rw [hl0];simp [M.val]⟩) ?_
 intro p hp
 rw [hI] at hp
 obtain ⟨us,vs,v,e,rfl⟩:=hp
 have ur:∀d∈us,0<=d/\d<b:=fun d hd=>tr d (by rw [e];exact List.mem_append_left _ hd)
 have u0:=M.val_nn (show 0<=b by omega) ur
 simp only [Q]
 refine ite2 (fun c=>?_) (fun c=>?_)
 ·have hne:us≠[]:=by intro z;rw [z] at c;exact absurd c (by show ¬(0:Int)<0;decide)
  obtain ⟨us',d,rfl⟩:=snoc_of us hne
  have hd:=ur d (by simp)
  obtain ⟨m1,m2⟩:=M.val_mod (xs:=us') hd
  have:=Int.ediv_lt_self_of_pos_of_ne_one c (show b≠1 by omega)
  have:=M.val_nn (show 0<=b by omega) (xs:=us') (fun x hx=>ur x (List.mem_append_left _ hx))
  refine ⟨by omega,by omega,by omega,?_,by omega⟩
  rw [hI]
  refine ⟨us',d::vs,some (.int d),by rw [e];simp,?_⟩
  rw [m1,m2,List.reverse_cons,M.val_snoc,List.length_cons,Int.pow_succ,Int.add_mul,Int.mul_assoc,<-Int.add_assoc]
  rfl
 ·have hz:us=[]:=by
   match us,e,ur,c with
   | [],_,_,_=>rfl
   | x::r,e,ur,c=>
    exfalso
    have hx:=ur x List.mem_cons_self
    have x0:x≠0:=by
     rcases th with z|z
     ·rw [e] at z;simp at z
     ·rw [e] at z;simpa using z
    rw [M.val_cons] at c
    have h1:=M.val_nn (show 0<=b by omega) (xs:=r) (fun y hy=>ur y (List.mem_cons_of_mem _ hy))
    have p:=M.pow_pos' (show 0<b by omega) r.length
    have:=Int.mul_le_mul_of_nonneg_right (show 1<=x by omega) (show 0<=b ^ r.length by omega)
    omega
  rw [hz,List.nil_append] at e
  rw [e] at tv
  have:f * b ^ vs.length+M.val b vs.reverse=palz b f L:=by rw [tv];omega
  rw [this]
  exact q
end
abbrev s_figures:Stmt:=top 9
abbrev A_figures (K:PySem.W.Frag) (mg:Str->Option Value):=DefAt K mg "figures" s_figures ["number","base"]
theorem sc_figures:FnScope ["number","base","row","left","figure"] ["number","base"] (defScope s_figures):=⟨rfl,rfl,rfl,by decide +kernel,rfl,by decide +kernel,by decide +kernel⟩
abbrev s_is_mirrored:Stmt:=top 10
abbrev A_is_mirrored (K:PySem.W.Frag) (mg:Str->Option Value):=DefAt K mg "is_mirrored" s_is_mirrored ["thing","base"]
theorem sc_is_mirrored:FnScope ["thing","base","row"] ["thing","base"] (defScope s_is_mirrored):=⟨rfl,rfl,rfl,by decide +kernel,rfl,by decide +kernel,by decide +kernel⟩
section
variable {P:Program} {w:World} {K:PySem.W.Frag} {mg:Str->Option Value} {base:Heap}
def S_figures:PSp:=fun as R=>∃n b:Int,as=[.d (.int n),.d (.int b)]/\0<=n/\n<M.Big/\2<=b/\b<=36/\R (.ro ((M.fg b n).map D.int)) as
theorem ok_figures (T:Txt mg) (Df:A_figures K mg) (D_is_whole:A_is_whole K mg) (D_check_base:A_check_base K mg):FnOk P w K mg base CX0 3 Df.f Df.fd ["number","base"] (spOf K S_figures):=by
 have G_check_base:=ok_check_base (P:=P) (w:=w) (base:=base) T D_check_base D_is_whole
 refine Df.F.okP sc_figures (fun as R h=>?_) (fun cdv A outer s H E C as R hK hr h=>?_)
 ·obtain ⟨_,_,rfl,_⟩:=h;rfl
 have hu:=hr.units
 obtain ⟨n,b,rfl,n0,n1,b0,b1,q⟩:=h
 refine ⟨_,(s_cons (s_expr (q_fz (n_call hK D_check_base G_check_base (hr.mono (by first|decide|omega)) (a_cons (q_var (pv 1)) a_nil))))
    (s_cons (s_setN (i:=2) sc_figures.nd rfl (by simp only [L2.QL]) (n_lst a_nil))
    (s_cons (s_set (i:=3) sc_figures.nd rfl (by simp only [L2.QL]) (q_var (pv 0)))
    (s_cons (s_while PassesOwn.never (t_ge (q_var (pv 3)) (q_var (pv 1))) (s_cons (s_asg (cb_divmod rfl T.z_divmod (a_cons (q_var (pv 3)) (a_cons (q_var (pv 1)) a_nil))) (g_tup (n:=2) hK rfl (gs_cons (g_name (i:=3) sc_figures.nd rfl (by simp only [L2.QL])) (gs_cons (g_name (i:=4) sc_figures.nd rfl (by simp only [L2.QL])) gs_nil))))
    (s_one (s_expr (m_append hK (pv 2) (a_cons (q_var (pv 4)) a_nil))))))
    (s_cons (s_expr (m_append hK (pv 2) (a_cons (q_var (pv 3)) a_nil)))
    (s_cons (s_expr (m_reverse hK (pv 2)))
    (s_one (s_retO (i:=2) (pv 2))))))))),?_⟩;simp only [Q,and_assoc,S_check_base]
 refine ⟨b0,b1,?_⟩
 obtain ⟨I,hI⟩:∃I:PSt->Prop,I=(fun p=>∃(rs:List Int) (left:Int) (v:Option D),p=[some (.d (.int n)),some (.d (.int b)),some (.own (rs.map D.int)),some (.d (.int left)),Option.map Sl.d v]/\M.Go2 b n rs left):=⟨_,rfl⟩
 refine while_q I (fun p=>match p[3]? with|some (some (Sl.d (D.int r)))=>r.toNat|_=>0) (by rw [hI];exact ⟨[],n,none,rfl,M.Go2.start b0 n0⟩) ?_
 intro p hp
 rw [hI] at hp
 obtain ⟨rs,left,v,rfl,g⟩:=hp
 have len:=g.len (by rw [<-M.big_def];exact n1)
 simp only [Q]
 refine ite2 (fun c=>?_) (fun c=>?_)
 ·have:=Int.ediv_lt_self_of_pos_of_ne_one (show 0<left by omega) (show b≠1 by omega)
  refine ⟨by omega,by omega,by rw [List.length_map];omega,by rw [hI];exact ⟨rs++[left % b],left / b,some (.int (left % b)),by rw [List.map_append];rfl,g.turn c⟩,by omega⟩
 ·have e:(List.map D.int rs++[D.int left]).reverse=(M.fg b n).map D.int:=by
   rw [<-(g.done (by omega)).fg b0 n0,List.map_reverse,List.map_append];rfl
  rw [e]
  exact ⟨by rw [List.length_map];omega,q⟩
def S_is_mirrored:PSp:=fun as R=>∃n b:Int,as=[.d (.int n),.d (.int b)]/\0<=n/\n<M.Big/\2<=b/\b<=36/\R (.rd (.bl (M.mir b n))) as
theorem ok_is_mirrored (T:Txt mg) (Df:A_is_mirrored K mg) (D_is_whole:A_is_whole K mg) (D_check_base:A_check_base K mg) (D_figures:A_figures K mg):FnOk P w K mg base CX0 4 Df.f Df.fd ["thing","base"] (spOf K S_is_mirrored):=by
 have G_check_base:=ok_check_base (P:=P) (w:=w) (base:=base) T D_check_base D_is_whole
 have G_figures:=ok_figures (P:=P) (w:=w) (base:=base) T D_figures D_is_whole D_check_base
 have G_is_whole:=ok_is_whole (P:=P) (w:=w) (base:=base) T D_is_whole
 refine Df.F.okP sc_is_mirrored (fun as R h=>?_) (fun cdv A outer s H E C as R hK hr h=>?_)
 ·obtain ⟨_,_,rfl,_⟩:=h;rfl
 have hu:=hr.units
 obtain ⟨n,b,rfl,n0,n1,b0,b1,q⟩:=h
 refine ⟨_,(s_cons (s_expr (q_fz (n_call hK D_check_base G_check_base (hr.mono (by first|decide|omega)) (a_cons (q_var (pv 1)) a_nil))))
    (s_cons (s_if (PW.pt (w_or (t_not (t_val (q_fz (n_call hK D_is_whole G_is_whole (hr.mono (by first|decide|omega)) (a_cons (q_var (pv 0)) a_nil))))) (w_or1 (t_lt (q_var (pv 0)) (q_c pe_int (fun _=>.int _)))))) (s_one (s_ret (n_val (q_c pe_bl (fun _=>.bl _))))) s_nil)
    (s_cons (s_set (i:=2) sc_is_mirrored.nd rfl (by simp only [L2.QL]) (q_fz (n_call hK D_figures G_figures (hr.mono (by first|decide|omega)) (a_cons (q_var (pv 0)) (a_cons (q_var (pv 1)) a_nil)))))
    (s_one (s_ret (n_val (q_eq hK hu (q_var (pv 2)) (q_fz (n_rev hK (q_var (pv 2))))))))))),?_⟩;simp only [Q,and_assoc,S_check_base,S_figures,S_is_whole]
 rw [if_neg (by omega)]
 rw [<-List.map_reverse]
 simp only [Q]
 exact ⟨b0,b1,n0,n1,b0,b1,q⟩
end
abbrev s_folded:Stmt:=top 16
abbrev A_folded (K:PySem.W.Frag) (mg:Str->Option Value):=DefAt K mg "folded" s_folded ["number","base"]
theorem sc_folded:FnScope ["number","base","length","front"] ["number","base"] (defScope s_folded):=⟨rfl,rfl,rfl,by decide +kernel,rfl,by decide +kernel,by decide +kernel⟩
abbrev s_at_most:Stmt:=top 18
abbrev A_at_most (K:PySem.W.Frag) (mg:Str->Option Value):=DefAt K mg "at_most" s_at_most ["number","base"]
theorem sc_at_most:FnScope ["number","base","length","front","mirrored"] ["number","base"] (defScope s_at_most):=⟨rfl,rfl,rfl,by decide +kernel,rfl,by decide +kernel,by decide +kernel⟩
section
variable {P:Program} {w:World} {K:PySem.W.Frag} {mg:Str->Option Value} {base:Heap}
def lnz (b n:Int):Nat:=if n=0 then 1 else M.ln b n
def frz' (b n:Int):Int:=if n=0 then 0 else n / b ^ (M.ln b n / 2)
def mrz (b n:Int):Int:=if n=0 then 0 else M.pal b (n / b ^ (M.ln b n / 2)) (M.ln b n)
theorem ln0 {b:Int} (hb:2<=b):M.ln b 0=1:=by unfold M.ln;rw [M.fg_zero hb];rfl
def S_folded:PSp:=fun as R=>∃n b:Int,as=[.d (.int n),.d (.int b)]/\0<=n/\n<M.Big/\2<=b/\b<=36/\R (.rd (.tup [.int (M.ln b n:Int),.int (frz' b n),.int (mrz b n)])) as
theorem pw4000 {b n:Int} (b0:2<=b) (n0:0<=n) (n1:n<M.Big):b ^ (M.ln b n / 2)<2 ^ 4000:=by
 have l0:=M.ln_pos b0 n0
 by_cases q:M.ln b n=1
 ·rw [q]
  have:(1:Int)<2 ^ 4000:=by decide +kernel
  simpa using this
 ·exact M.pw_big b0 n0 n1 (by omega)
theorem frz_is {b n:Int}:n / b ^ (M.ln b n / 2)=frz' b n:=by
 unfold frz'
 by_cases hz:n=0
 ·rw [if_pos hz,hz];simp
 ·rw [if_neg hz]
theorem mrz_is {b n:Int} (b0:2<=b) (n0:0<=n):((frz' b n=0/\M.ln b n=1)\/M.Fr b (frz' b n) (M.ln b n))/\palz b (frz' b n) (M.ln b n)=mrz b n:=by
 rw [<-frz_is]
 unfold palz mrz
 by_cases hz:n=0
 ·rw [if_pos hz,hz,ln0 b0]
  simp
 ·have F:=M.front_of b0 (show 1<=n by omega)
  exact ⟨.inr F,by rw [if_neg (by have:=F.pos;omega),if_neg hz]⟩
theorem ok_folded (T:Txt mg) (Df:A_folded K mg) (D_power:A_power K mg) (D_front_of:A_front_of K mg) (D_is_whole:A_is_whole K mg) (D_check_base:A_check_base K mg) (D_figures:A_figures K mg) (D_from_front:A_from_front K mg):FnOk P w K mg base CX0 4 Df.f Df.fd ["number","base"] (spOf K S_folded):=by
 have G_front_of:=ok_front_of (P:=P) (w:=w) (base:=base) T D_front_of D_power
 have G_figures:=ok_figures (P:=P) (w:=w) (base:=base) T D_figures D_is_whole D_check_base
 have G_from_front:=ok_from_front (P:=P) (w:=w) (base:=base) T D_from_front
 refine Df.F.okP sc_folded (fun as R h=>?_) (fun cdv A outer s H E C as R hK hr h=>?_)
 ·obtain ⟨_,_,rfl,_⟩:=h;rfl
 have hu:=hr.units
 obtain ⟨n,b,rfl,n0,n1,b0,b1,q⟩:=h
 have l1:=M.ln_le b0 n0 n1
 have hl:((M.fg b n).length:Int)=(M.ln b n:Int):=rfl
 have hm:=mrz_is b0 n0
 refine ⟨_,(s_cons (s_set (i:=2) sc_folded.nd rfl (by simp only [L2.QL]) (cb_len hK rfl T.z_len (a_cons (q_fz (n_call hK D_figures G_figures (hr.mono (by first|decide|omega)) (a_cons (q_var (pv 0)) (a_cons (q_var (pv 1)) a_nil)))) a_nil)))
    (s_cons (s_set (i:=3) sc_folded.nd rfl (by simp only [L2.QL]) (q_fz (n_call hK D_front_of G_front_of (hr.mono (by first|decide|omega)) (a_cons (q_var (pv 0)) (a_cons (q_var (pv 2)) (a_cons (q_var (pv 1)) a_nil))))))
    (s_one (s_ret (n_val (q_tup (a_cons (q_var (pv 2)) (a_cons (q_var (pv 3)) (a_cons (q_fz (n_call hK D_from_front G_from_front (hr.mono (by first|decide|omega)) (a_cons (q_var (pv 3)) (a_cons (q_var (pv 2)) (a_cons (q_var (pv 1)) a_nil))))) a_nil))))))))),?_⟩
 refine seq_goK fun kk hkk=>?_
 simp only [R,S_figures,List.length_map,hl]
 refine ⟨n0,n1,b0,b1,hkk _ ?_⟩
 refine seq_goK fun kk hkk=>?_
 simp only [R,S_front_of]
 refine ⟨M.ln b n,rfl,b0,b1,by omega,pw4000 b0 n0 n1,hkk _ ?_⟩
 rw [frz_is]
 simp only [Q,S_from_front]
 refine ⟨M.ln b n,rfl,b0,b1,by omega,hm.1,?_⟩
 rw [hm.2]
 exact q
def S_at_most:PSp:=fun as R=>∃n b:Int,as=[.d (.int n),.d (.int b)]/\0<=n/\n<M.Big/\2<=b/\b<=36/\∀m,M.AM b n m->R (.rd (.int m)) as
theorem am_zero {b:Int} (hb:2<=b):M.AM b 0 0:=⟨M.mp_small (by decide) (by omega),by decide,fun k _ h=>h⟩
theorem al_zero {b:Int} (hb:2<=b):M.AL b 0 0:=⟨M.mp_small (by decide) (by omega),by decide,fun k _ h=>h⟩
theorem ok_at_most (T:Txt mg) (Df:A_at_most K mg) (D_is_whole:A_is_whole K mg) (D_check_base:A_check_base K mg) (D_power:A_power K mg) (D_front_of:A_front_of K mg) (D_figures:A_figures K mg) (D_from_front:A_from_front K mg) (D_folded:A_folded K mg) (D_least_front:A_least_front K mg):FnOk P w K mg base CX0 5 Df.f Df.fd ["number","base"] (spOf K S_at_most):=by
 have G_check_base:=ok_check_base (P:=P) (w:=w) (base:=base) T D_check_base D_is_whole
 have G_folded:=ok_folded (P:=P) (w:=w) (base:=base) T D_folded D_power D_front_of D_is_whole D_check_base D_figures D_from_front
 have G_from_front:=ok_from_front (P:=P) (w:=w) (base:=base) T D_from_front
 have G_least_front:=ok_least_front (P:=P) (w:=w) (base:=base) T D_least_front D_power
 have G_power:=ok_power (P:=P) (w:=w) (base:=base) T D_power
 refine Df.F.okP sc_at_most (fun as R h=>?_) (fun cdv A outer s H E C as R hK hr h=>?_)
 ·obtain ⟨_,_,rfl,_⟩:=h;rfl
 have hu:=hr.units
 obtain ⟨n,b,rfl,n0,n1,b0,b1,q⟩:=h
 have l1:=M.ln_le b0 n0 n1
 have l0:=M.ln_pos b0 n0
 refine ⟨_,(s_cons (s_expr (q_fz (n_call hK D_check_base G_check_base (hr.mono (by first|decide|omega)) (a_cons (q_var (pv 1)) a_nil))))
    (s_cons (s_asg (q_fz (n_call hK D_folded G_folded (hr.mono (by first|decide|omega)) (a_cons (q_var (pv 0)) (a_cons (q_var (pv 1)) a_nil)))) (g_tup (n:=3) hK rfl (gs_cons (g_name (i:=2) sc_at_most.nd rfl (by simp only [L2.QL])) (gs_cons (g_name (i:=3) sc_at_most.nd rfl (by simp only [L2.QL])) (gs_cons (g_name (i:=4) sc_at_most.nd rfl (by simp only [L2.QL])) gs_nil)))))
    (s_cons (s_if (t_le (q_var (pv 4)) (q_var (pv 0))) (s_one (s_ret (n_val (q_var (pv 4))))) s_nil)
    (s_cons (s_if (t_eq hK hu (q_var (pv 3)) (q_fz (n_call hK D_least_front G_least_front (hr.mono (by first|decide|omega)) (a_cons (q_var (pv 2)) (a_cons (q_var (pv 1)) a_nil))))) (s_one (s_ret (n_val (q_sub (q_fz (n_call hK D_power G_power (hr.mono (by first|decide|omega)) (a_cons (q_var (pv 1)) (a_cons (q_sub (q_var (pv 2)) (q_c pe_int (fun _=>.int _))) a_nil)))) (q_c pe_int (fun _=>.int _)))))) s_nil)
    (s_one (s_ret (n_call hK D_from_front G_from_front (hr.mono (by first|decide|omega)) (a_cons (q_sub (q_var (pv 3)) (q_c pe_int (fun _=>.int _))) (a_cons (q_var (pv 2)) (a_cons (q_var (pv 1)) a_nil)))))))))),?_⟩
 refine seq_goK fun kk hkk=>?_
 simp only [R,S_check_base]
 refine ⟨b0,b1,hkk _ ?_⟩
 refine seq_goK fun kk hkk=>?_
 simp only [R,S_folded]
 refine ⟨n0,n1,b0,b1,hkk _ ?_⟩
 by_cases hz:n=0
 ·subst hz
  simp only [Q,mrz,frz']
  exact q _ (am_zero b0)
 have hn:1<=n:=by omega
 have F:=M.front_of b0 hn
 have e1:mrz b n=M.pal b (n / b ^ (M.ln b n / 2)) (M.ln b n):=by unfold mrz;rw [if_neg hz]
 have e2:frz' b n=n / b ^ (M.ln b n / 2):=by unfold frz';rw [if_neg hz]
 rw [e1,e2]
 refine seq_goK fun kk hkk=>?_
 simp only [R]
 refine ite2 (fun c=>q _ (M.am_front b0 hn c)) (fun c=>hkk _ ?_)
 refine seq_goK fun kk hkk=>?_
 simp only [R,S_least_front,S_power]
 refine ⟨M.ln b n,rfl,by omega,b1,by omega,ite2 (fun c2=>?_) (fun c2=>hkk _ ?_)⟩
 ·have e3:((M.ln b n:Int) - 1).toNat=M.ln b n - 1:=by omega
  rw [e3]
  exact ⟨by omega,b1,by omega,by omega,q _ (M.am_short b0 hn (by omega) c2)⟩
 ·have F1:M.Fr b (n / b ^ (M.ln b n / 2) - 1) (M.ln b n):=⟨b0,F.L1,by have:=F.lo;omega,by have:=F.hi;omega⟩
  have e3:palz b (n / b ^ (M.ln b n / 2) - 1) (M.ln b n)=M.pal b (n / b ^ (M.ln b n / 2) - 1) (M.ln b n):=by
   unfold palz;rw [if_neg (by have:=F1.pos;omega)]
  simp only [Q,S_from_front]
  refine ⟨M.ln b n,rfl,b0,b1,by omega,.inr F1,?_⟩
  rw [e3]
  exact q _ (M.am_less b0 hn (by omega) c2)
end
abbrev s_many_to_length:Stmt:=top 17
abbrev A_many_to_length (K:PySem.W.Frag) (mg:Str->Option Value):=DefAt K mg "many_to_length" s_many_to_length ["length","base"]
theorem sc_many_to_length:FnScope ["length","base"] ["length","base"] (defScope s_many_to_length):=⟨rfl,rfl,rfl,by decide +kernel,rfl,by decide +kernel,by decide +kernel⟩
abbrev s_place_of:Stmt:=top 21
abbrev A_place_of (K:PySem.W.Frag) (mg:Str->Option Value):=DefAt K mg "place_of" s_place_of ["thing","base"]
theorem sc_place_of:FnScope ["thing","base","length","behind"] ["thing","base"] (defScope s_place_of):=⟨rfl,rfl,rfl,by decide +kernel,rfl,by decide +kernel,by decide +kernel⟩
abbrev s_many_to:Stmt:=top 19
abbrev A_many_to (K:PySem.W.Frag) (mg:Str->Option Value):=DefAt K mg "many_to" s_many_to ["number","base"]
theorem sc_many_to:FnScope ["number","base"] ["number","base"] (defScope s_many_to):=⟨rfl,rfl,rfl,by decide +kernel,rfl,by decide +kernel,by decide +kernel⟩
abbrev s_mirrored_at:Stmt:=top 20
abbrev A_mirrored_at (K:PySem.W.Frag) (mg:Str->Option Value):=DefAt K mg "mirrored_at" s_mirrored_at ["place","base"]
theorem sc_mirrored_at:FnScope ["place","base","length","behind"] ["place","base"] (defScope s_mirrored_at):=⟨rfl,rfl,rfl,by decide +kernel,rfl,by decide +kernel,by decide +kernel⟩
section
variable {P:Program} {w:World} {K:PySem.W.Frag} {mg:Str->Option Value} {base:Heap}
def S_many_to_length:PSp:=fun as R=>∃(L:Nat) (b:Int),as=[.d (.int (L:Int)),.d (.int b)]/\0<=b/\b<=36/\L<=90000/\R (.rd (.int (M.mtl b L))) as
theorem ok_many_to_length (T:Txt mg) (Df:A_many_to_length K mg) (D_power:A_power K mg):FnOk P w K mg base CX0 2 Df.f Df.fd ["length","base"] (spOf K S_many_to_length):=by
 have G_power:=ok_power (P:=P) (w:=w) (base:=base) T D_power
 refine Df.F.okP sc_many_to_length (fun as R h=>?_) (fun cdv A outer s H E C as R hK hr h=>?_)
 ·obtain ⟨_,_,rfl,_⟩:=h;rfl
 have hu:=hr.units
 obtain ⟨L,b,rfl,b0,b1,l1,q⟩:=h
 refine ⟨_,(s_one (s_ret (n_val (q_sub (q_add (q_sub (q_fz (n_call hK D_power G_power (hr.mono (by first|decide|omega)) (a_cons (q_var (pv 1)) (a_cons (q_fdiv (q_add (q_var (pv 0)) (q_c pe_int (fun _=>.int _))) (q_c pe_int (fun _=>.int _))) a_nil)))) (q_c pe_int (fun _=>.int _))) (q_fz (n_call hK D_power G_power (hr.mono (by first|decide|omega)) (a_cons (q_var (pv 1)) (a_cons (q_fdiv (q_var (pv 0)) (q_c pe_int (fun _=>.int _))) a_nil))))) (q_c pe_int (fun _=>.int _)))))),?_⟩;simp only [Q,and_assoc,S_power]
 have e1:(((L:Int)+1) / 2).toNat=M.hf L:=by unfold M.hf;omega
 have e2:((L:Int) / 2).toNat=L / 2:=by omega
 rw [e1,e2]
 refine ⟨b0,b1,by omega,by omega,b0,b1,by omega,by omega,q⟩
def S_place_of:PSp:=fun as R=>∃n b:Int,as=[.d (.int n),.d (.int b)]/\M.Mp b n/\n<M.Big/\2<=b/\b<=36/\R (.rd (.int (M.pl b n))) as
theorem ok_place_of (T:Txt mg) (Df:A_place_of K mg) (D_is_whole:A_is_whole K mg) (D_check_base:A_check_base K mg) (D_figures:A_figures K mg) (D_is_mirrored:A_is_mirrored K mg) (D_power:A_power K mg) (D_front_of:A_front_of K mg) (D_least_front:A_least_front K mg) (D_many_to_length:A_many_to_length K mg):FnOk P w K mg base CX0 5 Df.f Df.fd ["thing","base"] (spOf K S_place_of):=by
 have G_check_base:=ok_check_base (P:=P) (w:=w) (base:=base) T D_check_base D_is_whole
 have G_is_mirrored:=ok_is_mirrored (P:=P) (w:=w) (base:=base) T D_is_mirrored D_is_whole D_check_base D_figures
 have G_figures:=ok_figures (P:=P) (w:=w) (base:=base) T D_figures D_is_whole D_check_base
 have G_front_of:=ok_front_of (P:=P) (w:=w) (base:=base) T D_front_of D_power
 have G_least_front:=ok_least_front (P:=P) (w:=w) (base:=base) T D_least_front D_power
 have G_many_to_length:=ok_many_to_length (P:=P) (w:=w) (base:=base) T D_many_to_length D_power
 refine Df.F.okP sc_place_of (fun as R h=>?_) (fun cdv A outer s H E C as R hK hr h=>?_)
 ·obtain ⟨_,_,rfl,_⟩:=h;rfl
 have hu:=hr.units
 obtain ⟨n,b,rfl,mp,n1,b0,b1,q⟩:=h
 have n0:=mp.1
 have l1:=M.ln_le b0 n0 n1
 have l0:=M.ln_pos b0 n0
 refine ⟨_,(s_cons (s_expr (q_fz (n_call hK D_check_base G_check_base (hr.mono (by first|decide|omega)) (a_cons (q_var (pv 1)) a_nil))))
    (s_cons (s_if (t_not (t_val (q_fz (n_call hK D_is_mirrored G_is_mirrored (hr.mono (by first|decide|omega)) (a_cons (q_var (pv 0)) (a_cons (q_var (pv 1)) a_nil)))))) (s_one s_never) s_nil)
    (s_cons (s_if (t_eq hK hu (q_var (pv 0)) (q_c pe_int (fun _=>.int _))) (s_one (s_ret (n_val (q_c pe_int (fun _=>.int _))))) s_nil)
    (s_cons (s_set (i:=2) sc_place_of.nd rfl (by simp only [L2.QL]) (cb_len hK rfl T.z_len (a_cons (q_fz (n_call hK D_figures G_figures (hr.mono (by first|decide|omega)) (a_cons (q_var (pv 0)) (a_cons (q_var (pv 1)) a_nil)))) a_nil)))
    (s_cons (s_set (i:=3) sc_place_of.nd rfl (by simp only [L2.QL]) (q_sub (q_fz (n_call hK D_front_of G_front_of (hr.mono (by first|decide|omega)) (a_cons (q_var (pv 0)) (a_cons (q_var (pv 2)) (a_cons (q_var (pv 1)) a_nil))))) (q_fz (n_call hK D_least_front G_least_front (hr.mono (by first|decide|omega)) (a_cons (q_var (pv 2)) (a_cons (q_var (pv 1)) a_nil))))))
    (s_one (s_ret (n_val (q_add (q_add (q_fz (n_call hK D_many_to_length G_many_to_length (hr.mono (by first|decide|omega)) (a_cons (q_sub (q_var (pv 2)) (q_c pe_int (fun _=>.int _))) (a_cons (q_var (pv 1)) a_nil)))) (q_var (pv 3))) (q_c pe_int (fun _=>.int _))))))))))),?_⟩
 refine seq_goP ?_
 simp only [R,S_check_base]
 refine ⟨b0,b1,?_⟩
 refine seq_goP ?_
 simp only [R,S_is_mirrored,mp.2]
 refine ⟨n0,n1,b0,b1,?_⟩
 by_cases hz:n=0
 ·subst hz
  simp only [Q]
  have e:M.pl b 0=0:=by unfold M.pl;rw [if_pos rfl]
  rw [e] at q
  exact q
 have hn:1<=n:=by omega
 have hl:(M.fg b n).length=M.ln b n:=rfl
 have hp':b ^ (M.ln b n / 2)<2 ^ 4000:=by
  by_cases q:M.ln b n=1
  ·rw [q]
   have:(1:Int)<2 ^ 4000:=by decide +kernel
   simpa using this
  ·exact M.pw_big b0 n0 n1 (by omega)
 refine seq_goP ?_
 simp only [R,hz]
 refine seq_goP ?_
 simp only [R,S_figures,List.length_map,hl]
 refine ⟨n0,n1,b0,b1,?_⟩
 simp only [Q,S_front_of,S_least_front,S_many_to_length]
 refine ⟨M.ln b n,rfl,b0,b1,by omega,hp',M.ln b n,rfl,by omega,b1,by omega,M.ln b n - 1,by omega,by omega,b1,by omega,?_⟩
 unfold M.pl at q
 rw [if_neg hz] at q
 exact q
def S_many_to:PSp:=fun as R=>∃n b:Int,as=[.d (.int n),.d (.int b)]/\0<=n/\n<M.Big/\2<=b/\b<=36/\R (.rd (.int (M.cnt b n))) as
theorem ok_many_to (T:Txt mg) (Df:A_many_to K mg) (D_is_whole:A_is_whole K mg) (D_check_base:A_check_base K mg) (D_figures:A_figures K mg) (D_is_mirrored:A_is_mirrored K mg) (D_power:A_power K mg) (D_front_of:A_front_of K mg) (D_least_front:A_least_front K mg) (D_many_to_length:A_many_to_length K mg) (D_place_of:A_place_of K mg) (D_from_front:A_from_front K mg) (D_folded:A_folded K mg) (D_at_most:A_at_most K mg):FnOk P w K mg base CX0 6 Df.f Df.fd ["number","base"] (spOf K S_many_to):=by
 have G_check_base:=ok_check_base (P:=P) (w:=w) (base:=base) T D_check_base D_is_whole
 have G_place_of:=ok_place_of (P:=P) (w:=w) (base:=base) T D_place_of D_is_whole D_check_base D_figures D_is_mirrored D_power D_front_of D_least_front D_many_to_length
 have G_at_most:=ok_at_most (P:=P) (w:=w) (base:=base) T D_at_most D_is_whole D_check_base D_power D_front_of D_figures D_from_front D_folded D_least_front
 refine Df.F.okP sc_many_to (fun as R h=>?_) (fun cdv A outer s H E C as R hK hr h=>?_)
 ·obtain ⟨_,_,rfl,_⟩:=h;rfl
 have hu:=hr.units
 obtain ⟨n,b,rfl,n0,n1,b0,b1,q⟩:=h
 refine ⟨_,(s_cons (s_expr (q_fz (n_call hK D_check_base G_check_base (hr.mono (by first|decide|omega)) (a_cons (q_var (pv 1)) a_nil))))
    (s_one (s_ret (n_call hK D_place_of G_place_of (hr.mono (by first|decide|omega)) (a_cons (q_fz (n_call hK D_at_most G_at_most (hr.mono (by first|decide|omega)) (a_cons (q_var (pv 0)) (a_cons (q_var (pv 1)) a_nil)))) (a_cons (q_var (pv 1)) a_nil)))))),?_⟩;simp only [Q,and_assoc,S_check_base,S_place_of,S_at_most]
 refine ⟨b0,b1,n0,n1,b0,b1,fun m hm=>⟨hm.mp,by have:=hm.le;omega,b0,b1,?_⟩⟩
 rw [M.pl_cnt b0 n0 hm]
 exact q
theorem mtl_big {b:Int} (hb:2<=b) {L:Nat} (hL:200<=L):(10:Int) ^ 25<M.mtl b L:=by
 have h1:=M.pow_ge_two hb 100
 have h2:=M.pow_le (b:=b) (by omega) (show 100<=M.hf L by unfold M.hf;omega)
 have h3:=M.pow_pos' (show 0<b by omega) (L / 2)
 have:(10:Int) ^ 25+1<2 ^ 100:=by decide
 unfold M.mtl
 omega
theorem pow_base {b c:Int} (h0:0<=b) (h:b<=c):∀k:Nat,b ^ k<=c ^ k
 | 0=>by simp
 | k+1=>by
  rw [Int.pow_succ,Int.pow_succ]
  have ih:=pow_base h0 h k
  have:0<=b ^ k:=Int.pow_nonneg h0
  exact Int.mul_le_mul ih h h0 (by omega)
def S_mirrored_at:PSp:=fun as R=>∃n b:Int,as=[.d (.int n),.d (.int b)]/\0<=n/\n<=10 ^ 25/\2<=b/\b<=36/\∀m,M.Mp b m->M.pl b m=n->m<M.Mid->R (.rd (.int m)) as
theorem ok_mirrored_at (T:Txt mg) (Df:A_mirrored_at K mg) (D_is_whole:A_is_whole K mg) (D_check_base:A_check_base K mg) (D_from_front:A_from_front K mg) (D_power:A_power K mg) (D_many_to_length:A_many_to_length K mg) (D_least_front:A_least_front K mg):FnOk P w K mg base CX0 3 Df.f Df.fd ["place","base"] (spOf K S_mirrored_at):=by
 have G_check_base:=ok_check_base (P:=P) (w:=w) (base:=base) T D_check_base D_is_whole
 have G_from_front:=ok_from_front (P:=P) (w:=w) (base:=base) T D_from_front
 have G_many_to_length:=ok_many_to_length (P:=P) (w:=w) (base:=base) T D_many_to_length D_power
 have G_least_front:=ok_least_front (P:=P) (w:=w) (base:=base) T D_least_front D_power
 refine Df.F.okP sc_mirrored_at (fun as R h=>?_) (fun cdv A outer s H E C as R hK hr h=>?_)
 ·obtain ⟨_,_,rfl,_⟩:=h;rfl
 have hu:=hr.units
 obtain ⟨n,b,rfl,n0,n1,b0,b1,q⟩:=h
 have B0:(0:Int)<M.Mid:=M.mid_40 (by decide)
 refine ⟨_,(s_cons (s_expr (q_fz (n_call hK D_check_base G_check_base (hr.mono (by first|decide|omega)) (a_cons (q_var (pv 1)) a_nil))))
    (s_cons (s_if (t_eq hK hu (q_var (pv 0)) (q_c pe_int (fun _=>.int _))) (s_one (s_ret (n_val (q_c pe_int (fun _=>.int _))))) s_nil)
    (s_cons (s_set (i:=2) sc_mirrored_at.nd rfl (by simp only [L2.QL]) (q_c pe_int (fun _=>.int _)))
    (s_cons (s_while PassesOwn.never (t_lt (q_fz (n_call hK D_many_to_length G_many_to_length (hr.mono (by first|decide|omega)) (a_cons (q_var (pv 2)) (a_cons (q_var (pv 1)) a_nil)))) (q_var (pv 0))) (s_one (s_iadd (i:=2) sc_mirrored_at.nd rfl (by simp only [L2.QL]) (q_c pe_int (fun _=>.int _)))))
    (s_cons (s_set (i:=3) sc_mirrored_at.nd rfl (by simp only [L2.QL]) (q_sub (q_sub (q_var (pv 0)) (q_fz (n_call hK D_many_to_length G_many_to_length (hr.mono (by first|decide|omega)) (a_cons (q_sub (q_var (pv 2)) (q_c pe_int (fun _=>.int _))) (a_cons (q_var (pv 1)) a_nil))))) (q_c pe_int (fun _=>.int _))))
    (s_one (s_ret (n_call hK D_from_front G_from_front (hr.mono (by first|decide|omega)) (a_cons (q_add (q_fz (n_call hK D_least_front G_least_front (hr.mono (by first|decide|omega)) (a_cons (q_var (pv 2)) (a_cons (q_var (pv 1)) a_nil)))) (q_var (pv 3))) (a_cons (q_var (pv 2)) (a_cons (q_var (pv 1)) a_nil))))))))))),?_⟩
 refine seq_goP ?_
 simp only [R,S_check_base]
 refine ⟨b0,b1,?_⟩
 by_cases hz:n=0
 ·subst hz
  simp only [Q]
  exact q 0 (M.mp_small (by decide) (by omega)) (by unfold M.pl;rw [if_pos rfl]) B0
 refine seq_goP ?_
 simp only [R,hz]
 refine seq_goP ?_
 simp only [R]
 refine seq_cutP (fun p=>∃L:Nat,1<=L/\L<=200/\M.mtl b (L - 1)<n/\n<=M.mtl b L/\p=[some (.d (.int n)),some (.d (.int b)),some (.d (.int (L:Int))),none]) (fun k hk=>?_) ?_
 ·obtain ⟨I,hI⟩:∃I:PSt->Prop,I=(fun p=>∃L:Nat,1<=L/\L<=200/\M.mtl b (L - 1)<n/\p=[some (.d (.int n)),some (.d (.int b)),some (.d (.int (L:Int))),none]):=⟨_,rfl⟩
  refine while_q I (fun p=>match p[2]? with|some (some (Sl.d (D.int r)))=>(200 - r).toNat|_=>0) (by rw [hI];exact ⟨1,by decide,by decide,by simp [M.mtl,M.hf];omega,rfl⟩) ?_
  intro p hp
  rw [hI] at hp
  obtain ⟨L,L1,L2,hlt,rfl⟩:=hp
  simp only [Q,S_many_to_length]
  refine ⟨L,rfl,by omega,b1,by omega,ite2 (fun c=>?_) (fun c=>?_)⟩
  ·have h3:L≠200:=fun z=>by
    have:=mtl_big b0 (L:=L) (by omega)
    omega
   refine ⟨?_,by omega⟩
   rw [hI]
   exact ⟨L+1,by omega,by omega,by rw [Nat.add_sub_cancel];exact c,rfl⟩
  ·exact hk _ ⟨L,L1,L2,hlt,by omega,rfl⟩
 rintro p ⟨L,L1,L2,hlt,hle,rfl⟩
 have ms:=M.mtl_succ (b:=b) L1
 have F:M.Fr b (b ^ (M.hf L - 1)+(n - M.mtl b (L - 1) - 1)) L:=⟨b0,L1,by omega,by omega⟩
 have e3:palz b (b ^ (M.hf L - 1)+(n - M.mtl b (L - 1) - 1)) L=M.pal b (b ^ (M.hf L - 1)+(n - M.mtl b (L - 1) - 1)) L:=by
  unfold palz;rw [if_neg (by have:=F.pos;omega)]
 have hB:M.pal b (b ^ (M.hf L - 1)+(n - M.mtl b (L - 1) - 1)) L<M.Mid:=by
  have h1:=M.ln_lt b0 F.pal0
  rw [F.ln] at h1
  have h2:=pow_base (show 0<=b by omega) b1 L
  have h3:=M.pow_le (b:=36) (by decide) L2
  have h4:(36:Int) ^ 200<M.Mid:=by unfold M.Mid;decide +kernel
  omega
 simp only [Q,S_many_to_length,S_least_front,S_from_front]
 refine ⟨L - 1,by omega,by omega,b1,by omega,L,rfl,by omega,b1,by omega,L,rfl,b0,b1,by omega,.inr F,?_⟩
 rw [e3]
 exact q _ F.mp (by rw [F.pl];omega) hB
end
end K18
namespace M
open Classical in
noncomputable def al (b n:Int):Int:=if h:∃m,AL b n m then h.choose else 0
def allMb (bs:List Int) (m:Int):Bool:=bs.all fun b=>mir b m
def inA (bs:List Int):Nat->List Int
 | 0=>[]
 | k+1=>if allMb bs (k:Int) then inA bs k++[(k:Int)] else inA bs k
theorem inA_one {b:Int} (hb:2<=b):∀n:Nat,inA [b] (n+1)=0::mto b (n:Int)
 | 0=>by
  have:allMb [b] ((0:Nat):Int)=true:=by unfold allMb;simp [mir_small (Int.le_refl 0) (show (0:Int)<b by omega)]
  show (if allMb [b] ((0:Nat):Int)=true then []++[((0:Nat):Int)] else [])=_
  rw [if_pos this]
  rfl
 | n+1=>by
  have ih:=inA_one hb n
  show (if allMb [b] ((n+1:Nat):Int)=true then inA [b] (n+1)++[((n+1:Nat):Int)] else inA [b] (n+1))=_
  rw [ih]
  have e2:allMb [b] ((n+1:Nat):Int)=mir b ((n+1:Nat):Int):=by unfold allMb;simp
  rw [e2]
  show _=0::pms b (n+1)
  have em:mto b (n:Int)=pms b n:=rfl
  rw [em]
  have ec:((n+1:Nat):Int)=(n:Int)+1:=by push_cast;rfl
  rw [ec]
  by_cases h:mir b ((n:Int)+1)=true
  ·rw [if_pos h,pms_yes h];rfl
  ·rw [if_neg h,pms_no h]
end M
namespace M
theorem inA_ms (b:Int):∀n:Nat,inA [b] n=ms b n
 | 0=>rfl
 | n+1=>by
  have ih:=inA_ms b n
  show (if allMb [b] (n:Int)=true then inA [b] n++[(n:Int)] else inA [b] n)=(if mir b (n:Int)=true then ms b n++[(n:Int)] else ms b n)
  have e2:allMb [b] (n:Int)=mir b (n:Int):=by unfold allMb;simp
  rw [e2,ih]
theorem up_eq:∀{xs ys:List Int},xs.Pairwise (·<·)->ys.Pairwise (·<·)->(∀k,k∈xs ↔ k∈ys)->xs=ys
 | [],[],_,_,_=>rfl
 | [],y::ys,_,_,h=>by have:=(h y).mpr List.mem_cons_self;cases this
 | x::xs,[],_,_,h=>by have:=(h x).mp List.mem_cons_self;cases this
 | x::xs,y::ys,hx,hy,h=>by
  have hx':=List.pairwise_cons.mp hx
  have hy':=List.pairwise_cons.mp hy
  have e:x=y:=by
   rcases List.mem_cons.mp ((h x).mp List.mem_cons_self) with h1|h1
   ·exact h1
   ·rcases List.mem_cons.mp ((h y).mpr List.mem_cons_self) with h2|h2
    ·exact h2.symm
    ·have:=hx'.1 y h2;have:=hy'.1 x h1;omega
  subst e
  rw [up_eq hx'.2 hy'.2 fun k=>?_]
  constructor
  ·intro hk
   rcases List.mem_cons.mp ((h k).mp (List.mem_cons_of_mem _ hk)) with h1|h1
   ·have:=hx'.1 k hk;omega
   ·exact h1
  ·intro hk
   rcases List.mem_cons.mp ((h k).mpr (List.mem_cons_of_mem _ hk)) with h1|h1
   ·have:=hy'.1 k hk;omega
   ·exact h1
theorem getD_lt {ns:List Int} (up:ns.Pairwise (·<·)) {i j:Nat} (hj:j<ns.length) (h:i<j):ns.getD i 0<ns.getD j 0:=by
 rw [List.getD_eq_getElem?_getD,List.getD_eq_getElem?_getD,List.getElem?_eq_getElem (show i<ns.length by omega),List.getElem?_eq_getElem hj]
 exact List.pairwise_iff_getElem.mp up i j (by omega) hj h
theorem at_mem {ns:List Int} {i:Nat} (h:i<ns.length):ns.getD i 0∈ns:=by
 rw [List.getD_eq_getElem?_getD,List.getElem?_eq_getElem h];exact List.getElem_mem h
theorem tw_due {b n:Int} (n0:0<=n):(mto b n).reverse.filter (fun y=>decide (n<=2 * y) && decide (n - y∈mto b n))=(tw b n).map fun x=>n - x:=by
 have e:((mto b n).reverse.filter (fun y=>decide (n<=2 * y) && decide (n - y∈mto b n))).reverse=((tw b n).map fun x=>n - x).reverse:=by
  refine up_eq ?_ ?_ fun k=>?_
  ·rw [<-List.filter_reverse,List.reverse_reverse]
   exact (mto_sorted b n).sublist List.filter_sublist
  ·rw [List.pairwise_reverse,List.pairwise_map]
   exact (tw_sorted b n).imp fun h=>by omega
  ·rw [List.mem_reverse,List.mem_reverse,List.mem_filter,List.mem_reverse,List.mem_map,mem_mto n0,Bool.and_eq_true,decide_eq_true_eq,decide_eq_true_eq,mem_mto n0]
   constructor
   ·rintro ⟨⟨h1,h2,h3⟩,h4,h5,h6,h7⟩
    exact ⟨n - k,(mem_tw n0).mpr ⟨⟨h5,by omega,h7⟩,by rw [show n - (n - k)=k by omega];exact h3⟩,by omega⟩
   ·rintro ⟨x,hx,rfl⟩
    obtain ⟨⟨h1,h2,h3⟩,h4⟩:=(mem_tw n0).mp hx
    refine ⟨⟨by omega,by omega,h4⟩,by omega,by omega,by omega,?_⟩
    rw [show n - (n - x)=x by omega];exact h3
 have:=congrArg List.reverse e
 rwa [List.reverse_reverse,List.reverse_reverse] at this
def twsum (b:Int):Nat->Int
 | 0=>0
 | k+1=>twsum b k+((tw b (k:Int)).length:Int)
def prsOf (b:Int) (N:Int) (y:Int):Int:=cnt b (if N - y<y then N - y else y)
def prsum (b:Int) (N:Int):Int:=((mto b N).map (prsOf b N)).sum
theorem sum_two (f g:Int->Int):∀L:List Int,(L.map fun y=>f y+g y).sum=(L.map f).sum+(L.map g).sum
 | []=>rfl
 | x::L=>by
  have:=sum_two f g L
  simp only [List.map_cons,List.sum_cons] at *
  omega
theorem sum_ind (p:Int->Bool):∀L:List Int,(L.map fun y=>if p y=true then (1:Int) else 0).sum=((L.filter p).length:Int)
 | []=>rfl
 | x::L=>by
  have:=sum_ind p L
  rw [List.map_cons,List.sum_cons,this]
  by_cases h:p x=true
  ·rw [if_pos h,List.filter_cons_of_pos h,List.length_cons];omega
  ·rw [if_neg h,List.filter_cons_of_neg h];omega
theorem cnt_zero (b:Int):cnt b 0=0:=rfl
theorem cnt_succ {b n:Int} (hn:0<=n):cnt b (n+1)=cnt b n+(if mir b (n+1)=true then 1 else 0):=by
 obtain ⟨k,rfl⟩:=Int.eq_ofNat_of_zero_le hn
 show cntN b ((k:Int)+1).toNat=cntN b ((k:Int)).toNat+_
 rw [show ((k:Int)+1).toNat=k+1 by omega,show ((k:Int)).toNat=k by omega]
 rfl
theorem prs_step {b N y:Int} (y1:1<=y) (y2:y<=N):prsOf b (N+1) y=prsOf b N y+(if (decide (N+1<=2 * y) && mir b (N+1 - y))=true then 1 else 0):=by
 unfold prsOf
 by_cases c:N+1<=2 * y
 ·rw [decide_eq_true c,Bool.true_and,if_pos (show N - y<y by omega)]
  have e:(if N+1 - y<y then N+1 - y else y)=N - y+1:=by split<;>omega
  rw [e,cnt_succ (by omega),show N - y+1=N+1 - y by omega]
 ·rw [decide_eq_false c,Bool.false_and,if_neg (show ¬N - y<y by omega),if_neg (show ¬N+1 - y<y by omega)]
  simp
theorem tw_cnt {b N:Int} (n0:0<=N):((mto b N).filter (fun y=>decide (N+1<=2 * y) && mir b (N+1 - y))).length=(tw b (N+1)).length:=by
 have h:=tw_due (b:=b) (n:=N+1) (by omega)
 have h1:(tw b (N+1)).length=((mto b (N+1)).filter (fun y=>decide (N+1<=2 * y) && decide (N+1 - y∈mto b (N+1)))).length:=by
  have:=congrArg List.length h
  rw [List.length_map,List.filter_reverse,List.length_reverse] at this
  exact this.symm
 rw [h1]
 congr 1
 refine up_eq ((mto_sorted b N).sublist List.filter_sublist) ((mto_sorted b _).sublist List.filter_sublist) fun k=>?_
 rw [List.mem_filter,List.mem_filter,mem_mto n0,mem_mto (by omega),Bool.and_eq_true,Bool.and_eq_true,decide_eq_true_eq,decide_eq_true_eq,mem_mto (by omega)]
 constructor
 ·rintro ⟨⟨h1,h2,h3⟩,h4,h5⟩
  exact ⟨⟨h1,by omega,h3⟩,h4,by omega,by omega,h5⟩
 ·rintro ⟨⟨h1,h2,h3⟩,h4,h5,h6,h7⟩
  exact ⟨⟨h1,by omega,h3⟩,h4,h7⟩
theorem prs_tws (b:Int):∀N:Nat,prsum b (N:Int)=twsum b (N+1)
 | 0=>by
  have e1:mto b ((0:Nat):Int)=[]:=rfl
  have e2:tw b ((0:Nat):Int)=[]:=rfl
  unfold prsum twsum
  rw [e1,e2];rfl
 | N+1=>by
  have ih:=prs_tws b N
  have e0:((N+1:Nat):Int)=(N:Int)+1:=by omega
  have es:prsum b ((N:Int)+1)=((mto b (N:Int)).map (prsOf b ((N:Int)+1))).sum:=by
   unfold prsum
   have em:mto b ((N:Int)+1)=pms b (N+1):=by unfold mto;congr 1
   have em0:mto b (N:Int)=pms b N:=by unfold mto;congr 1
   rw [em,em0]
   by_cases h:mir b ((N:Int)+1)=true
   ·rw [pms_yes h,List.map_append,List.sum_append]
    have:prsOf b ((N:Int)+1) ((N:Int)+1)=0:=by
     unfold prsOf
     rw [if_pos (by omega),show (N:Int)+1 - ((N:Int)+1)=0 by omega]
     exact cnt_zero b
    simp [this]
   ·rw [pms_no h]
  have e2:(mto b (N:Int)).map (prsOf b ((N:Int)+1))=(mto b (N:Int)).map fun y=>prsOf b (N:Int) y+(if (decide ((N:Int)+1<=2 * y) && mir b ((N:Int)+1 - y))=true then 1 else 0):=by
   refine List.map_congr_left fun y hy=>?_
   have:=(mem_mto (by omega)).mp hy
   exact prs_step this.1 this.2.1
  rw [e0,es,e2,sum_two,sum_ind (fun y=>decide ((N:Int)+1<=2 * y) && mir b ((N:Int)+1 - y)),tw_cnt (by omega)]
  show prsum b (N:Int)+_=_
  rw [ih]
  show _=twsum b (N+1)+((tw b ((N+1:Nat):Int)).length:Int)
  rw [e0]
theorem tw_few {b:Int} {n:Nat}:(tw b (n:Int)).length<=n:=by
 unfold tw
 refine Nat.le_trans (List.length_filter_le _ _) ?_
 have h1:=mto_len b ((n:Int) / 2)
 have h2:∀k:Nat,cntN b k<=k:=fun k=>by
  induction k with
  | zero=>exact Int.le_refl _
  | succ k ih=>rw [cnt_snoc];split<;>omega
 have h3:cnt b ((n:Int) / 2)<=(((n:Int) / 2).toNat:Int):=h2 _
 omega
theorem tws_few {b:Int} {k:Nat} (h:k<=301):0<=twsum b k/\twsum b k<=k * 301:=by
 induction k with
 | zero=>exact ⟨Int.le_refl _,by simp [twsum]⟩
 | succ k ih=>
  have ih:=ih (by omega)
  have:=tw_few (b:=b) (n:=k)
  show 0<=twsum b k+_/\twsum b k+_<=_
  omega
theorem mto_pl {b N:Int} (hb:2<=b) (n0:0<=N) {i:Nat} (hi:i<(mto b N).length):Mp b ((mto b N).getD i 0)/\pl b ((mto b N).getD i 0)=(i:Int)+1/\(mto b N).getD i 0<=N/\1<=(mto b N).getD i 0:=by
 obtain ⟨k,rfl⟩:=Int.eq_ofNat_of_zero_le n0
 have e:=inA_one hb k
 have hm:ms b (k+1)=0::mto b (k:Int):=by rw [<-inA_ms];exact e
 have:=ms_pl hb (k+1) (i+1) ((mto b (k:Int)).getD i 0) (by rw [hm,List.getElem?_cons_succ,List.getElem?_eq_getElem hi,List.getD_eq_getElem?_getD,List.getElem?_eq_getElem hi];rfl)
 have mm:=(mem_mto (b:=b) (n:=(k:Int)) (by omega)).mp (at_mem hi)
 exact ⟨this.1,by omega,mm.2.1,mm.1⟩
end M
namespace K18
open PySem L2
abbrev s_law_base:Stmt:=top 32
abbrev A_law_base (K:PySem.W.Frag) (mg:Str->Option Value):=DefAt K mg "_law_base" s_law_base ["hand"]
theorem sc_law_base:FnScope ["hand","ends"] ["hand"] (defScope s_law_base):=⟨rfl,rfl,rfl,by decide +kernel,rfl,by decide +kernel,by decide +kernel⟩
section
variable {P:Program} {w:World} {K:PySem.W.Frag} {mg:Str->Option Value} {base:Heap}
def S_law_base:PSp:=fun as R=>∃(h:List D),as=[.bor h]/\HandD h/\∀(b:Int) h',2<=b->b<=36->HandD h'->R (.rd (.int b)) [.bor h']
theorem lit4 {x y z u:D} {g:Int} (h0:0<=g) (h1:g<4):∃v,atI [x,y,z,u] g=some v/\(v=x\/v=y\/v=z\/v=u):=by
 have:g=0\/g=1\/g=2\/g=3:=by omega
 rcases this with rfl|rfl|rfl|rfl
 ·exact ⟨x,rfl,.inl rfl⟩
 ·exact ⟨y,rfl,.inr (.inl rfl)⟩
 ·exact ⟨z,rfl,.inr (.inr (.inl rfl))⟩
 ·exact ⟨u,rfl,.inr (.inr (.inr rfl))⟩
theorem ok_law_base (T:Txt mg) (Df:A_law_base K mg) (D_law_draw:A_law_draw K mg):FnOk P w K mg base CX0 2 Df.f Df.fd ["hand"] (spOf K S_law_base):=by
 have G_law_draw:=ok_law_draw (P:=P) (w:=w) (base:=base) T D_law_draw
 refine Df.F.okP sc_law_base (fun as R h=>?_) (fun cdv A outer s H E C as R hK hr h=>?_)
 ·obtain ⟨_,rfl,_⟩:=h;rfl
 have hu:=hr.units
 obtain ⟨h,rfl,hh,q⟩:=h
 refine ⟨_,(s_cons (s_set (i:=1) sc_law_base.nd rfl (by simp only [L2.QL]) (q_ix hK (q_fz (n_lst (a_cons (q_c pe_int (fun _=>.int _)) (a_cons (q_c pe_int (fun _=>.int _)) (a_cons (q_c pe_int (fun _=>.int _)) (a_cons (q_c pe_int (fun _=>.int _)) a_nil)))))) (q_fz (n_call hK D_law_draw G_law_draw (hr.mono (by first|decide|omega)) (a_cons (q_var (pv 0)) (a_cons (q_c pe_int (fun _=>.int _)) a_nil)))) (fun _ _=>rfl)))
    (s_one (s_ret (n_val (q_ix hK (q_fz (n_lst (a_cons (q_add (q_c pe_int (fun _=>.int _)) (q_fz (n_call hK D_law_draw G_law_draw (hr.mono (by first|decide|omega)) (a_cons (q_var (pv 0)) (a_cons (q_c pe_int (fun _=>.int _)) a_nil))))) (a_cons (q_c pe_int (fun _=>.int _)) (a_cons (q_add (q_c pe_int (fun _=>.int _)) (q_fz (n_call hK D_law_draw G_law_draw (hr.mono (by first|decide|omega)) (a_cons (q_var (pv 0)) (a_cons (q_c pe_int (fun _=>.int _)) a_nil))))) (a_cons (q_var (pv 1)) a_nil)))))) (q_fz (n_call hK D_law_draw G_law_draw (hr.mono (by first|decide|omega)) (a_cons (q_var (pv 0)) (a_cons (q_c pe_int (fun _=>.int _)) a_nil)))) (fun _ _=>rfl)))))),?_⟩;simp only [Q,and_assoc,S_law_draw]
 refine ⟨hh,fun g1 h1 g10 g11 hh1=>?_⟩
 obtain ⟨v,ev,hv⟩:=lit4 (x:=.int 2) (y:=.int 36) (z:=.int 3) (u:=.int 16) g10 g11
 obtain ⟨e,rfl,e0,e1⟩:∃e:Int,v=.int e/\2<=e/\e<=36:=by
  rcases hv with rfl|rfl|rfl|rfl<;>exact ⟨_,rfl,by decide,by decide⟩
 refine ⟨_,ev,?_⟩
 simp only [Q,S_law_draw]
 refine ⟨hh1,fun g2 h2 g20 g21 hh2=>⟨hh2,fun g3 h3 g30 g31 hh3=>⟨hh3,fun g4 h4 g40 g41 hh4=>?_⟩⟩⟩
 obtain ⟨v,ev,hv⟩:=lit4 (x:=.int (2+g2)) (y:=.int 10) (z:=.int (2+g3)) (u:=.int e) g40 g41
 refine ⟨v,ev,?_⟩
 rcases hv with rfl|rfl|rfl|rfl<;>exact q _ _ (by omega) (by omega) hh4
end
abbrev s_law_cells:Stmt:=top 31
abbrev A_law_cells (K:PySem.W.Frag) (mg:Str->Option Value):=DefAt K mg "_law_cells" s_law_cells ["script","many"]
theorem sc_law_cells:FnScope ["script","many"] ["script","many"] (defScope s_law_cells):=⟨rfl,rfl,rfl,by decide +kernel,rfl,by decide +kernel,by decide +kernel⟩
section
variable {P:Program} {w:World} {K:PySem.W.Frag} {mg:Str->Option Value} {base:Heap}
def S_law_cells:PSp:=fun as R=>∃(ns:List Int) (m:Int),as=[.d (.scr ns),.d (.int m)]/\ns.length<=63/\1<=m/\m<=63/\∀(cs:List Int),cs.length<=63->R (.ro (pairsOf (cs.map D.int))) as
theorem ok_law_cells (T:Txt mg) (Df:A_law_cells K mg):FnOk P w K mg base CX0 1 Df.f Df.fd ["script","many"] (spOf K S_law_cells):=by
 refine Df.F.okP sc_law_cells (fun as R h=>?_) (fun cdv A outer s H E C as R hK hr h=>?_)
 ·obtain ⟨_,_,rfl,_⟩:=h;rfl
 have hu:=hr.units
 obtain ⟨ns,m,rfl,hl,m0,m1,q⟩:=h
 refine ⟨_,(s_one (s_ret (n_listEn hK rfl (q_fz (n_cat (q_fz (n_sl hK (q_var (pv 0)) o_none (o_some (q_var (pv 1))))) (q_fz (n_rep (q_fz (n_lst (a_cons (q_c pe_int (fun _=>.int _)) a_nil))) (cb_int rfl T.z_int (a_cons (q_eq hK hu (q_var (pv 0)) (q_fz (n_lst a_nil))) a_nil)))))) rfl T.z_list rfl T.z_enumerate))),?_⟩;simp only [Q,and_assoc]
 rw [cut_takeI _ (by omega),<-List.map_take]
 by_cases hn:ns=[]
 ·subst hn
  simp only [Q]
  exact ⟨by decide,by simp,by simpa using q [0] (by decide)⟩
 ·have e:(if decide (ns=[])=true then (1:Int) else 0)=0:=by rw [decide_eq_false hn];rfl
  simp only [Q,e,hn]
  have lt:(List.take m.toNat ns).length<=63:=by rw [List.length_take];omega
  exact ⟨by simp,by simp;omega,by simpa using q _ lt⟩
end
abbrev s_law_pairs:Stmt:=top 36
abbrev A_law_pairs (K:PySem.W.Frag) (mg:Str->Option Value):=DefAt K mg "_law_pairs" s_law_pairs ["bound","base"]
theorem sc_law_pairs:FnScope ["bound","base","found","place","one"] ["bound","base"] (defScope s_law_pairs):=⟨rfl,rfl,rfl,by decide +kernel,rfl,by decide +kernel,by decide +kernel⟩
section
variable {P:Program} {w:World} {K:PySem.W.Frag} {mg:Str->Option Value} {base:Heap}
def S_law:PSp:=fun as R=>∃(ns:List Int),as=[.d (.scr ns)]/\ns.length<=63/\R (.rd (.bl true)) as
theorem pair_at {cs:List Int} {i:Nat} (h:i<(pairsOf (cs.map D.int)).length):∃c:Int,(pairsOf (cs.map D.int)).getD i .non=.tup [.int i,.int c]:=by
 have hi:i<cs.length:=by unfold pairsOf at h;simpa using h
 refine ⟨cs.getD i 0,?_⟩
 unfold pairsOf
 rw [List.getD_eq_getElem?_getD,List.getElem?_map,List.getElem?_range (by simpa using hi)]
 show D.tup [.int (i:Int),(cs.map D.int).getD i .non]=_
 rw [getD_ints hi]
theorem pairs_len {cs:List Int}:(pairsOf (cs.map D.int)).length=cs.length:=by unfold pairsOf;simp
def S_law_pairs:PSp:=fun as R=>∃(N:Nat) (b:Int),as=[.d (.int (N:Int)),.d (.int b)]/\N<=300/\2<=b/\b<=36/\R (.rd (.int (M.twsum b (N+1)))) as
theorem ok_law_pairs (T:Txt mg) (Df:A_law_pairs K mg) (D_is_whole:A_is_whole K mg) (D_check_base:A_check_base K mg) (D_from_front:A_from_front K mg) (D_power:A_power K mg) (D_many_to_length:A_many_to_length K mg) (D_least_front:A_least_front K mg) (D_mirrored_at:A_mirrored_at K mg) (D_figures:A_figures K mg) (D_is_mirrored:A_is_mirrored K mg) (D_front_of:A_front_of K mg) (D_place_of:A_place_of K mg) (D_folded:A_folded K mg) (D_at_most:A_at_most K mg) (D_many_to:A_many_to K mg):FnOk P w K mg base CX0 7 Df.f Df.fd ["bound","base"] (spOf K S_law_pairs):=by
 have G_mirrored_at:=ok_mirrored_at (P:=P) (w:=w) (base:=base) T D_mirrored_at D_is_whole D_check_base D_from_front D_power D_many_to_length D_least_front
 have G_many_to:=ok_many_to (P:=P) (w:=w) (base:=base) T D_many_to D_is_whole D_check_base D_figures D_is_mirrored D_power D_front_of D_least_front D_many_to_length D_place_of D_from_front D_folded D_at_most
 refine Df.F.okP sc_law_pairs (fun as R h=>?_) (fun cdv A outer s H E C as R hK hr h=>?_)
 ·obtain ⟨_,_,rfl,_⟩:=h;rfl
 have hu:=hr.units
 obtain ⟨N,b,rfl,N1,b0,b1,q⟩:=h
 have bg:∀m:Int,m<=300->m<M.Big:=fun m hm=>M.big_40 (Int.le_trans hm (by decide))
 have pt:=M.prs_tws b N
 have at':∀i,i<(M.mto b (N:Int)).length->_:=fun i hi=>M.mto_pl b0 (show 0<=(N:Int) by omega) hi
 have ll:=M.mto_len b (N:Int)
 have l3:(M.mto b (N:Int)).length<80000:=by
  have:=M.cnt_le6 b0 b1 (show 0<=(N:Int) by omega) (Int.le_trans (show (N:Int)<=300 by omega) (by decide))
  omega
 unfold M.prsum at pt
 refine ⟨_,(s_cons (s_set (i:=2) sc_law_pairs.nd rfl (by simp only [L2.QL]) (q_c pe_int (fun _=>.int _)))
    (s_cons (s_for PassesOwn.never rfl (i_range2 rfl T.z_range (a_cons (q_c pe_int (fun _=>.int _)) (a_cons (q_add (q_fz (n_call hK D_many_to G_many_to (hr.mono (by first|decide|omega)) (a_cons (q_var (pv 0)) (a_cons (q_var (pv 1)) a_nil)))) (q_c pe_int (fun _=>.int _))) a_nil))) (g_name (i:=3) sc_law_pairs.nd rfl (by simp only [L2.QL])) (s_cons (s_set (i:=4) sc_law_pairs.nd rfl (by simp only [L2.QL]) (q_fz (n_call hK D_mirrored_at G_mirrored_at (hr.mono (by first|decide|omega)) (a_cons (q_var (pv 3)) (a_cons (q_var (pv 1)) a_nil)))))
    (s_one (s_set (i:=2) sc_law_pairs.nd rfl (by simp only [L2.QL]) (q_add (q_var (pv 2)) (q_fz (n_call hK D_many_to G_many_to (hr.mono (by first|decide|omega)) (a_cons (cb_min rfl rfl T.z_min (a_cons (q_var (pv 4)) (a_cons (q_sub (q_var (pv 0)) (q_var (pv 4))) a_nil))) (a_cons (q_var (pv 1)) a_nil)))))))))
    (s_one (s_ret (n_val (q_var (pv 2))))))),?_⟩
 refine seq_goK fun kk hkk=>?_
 simp only [R]
 refine hkk _ ?_
 clear hkk kk
 generalize hns:M.mto b (N:Int)=ns at *
 obtain ⟨I,hI⟩:∃I:Nat->PSt->Prop,I=(fun (i:Nat) p=>∃(w3 w4:Option D),p=[some (.d (.int (N:Int))),some (.d (.int b)),some (.d (.int (((ns.take i).map (M.prsOf b (N:Int))).sum))),Option.map Sl.d w3,Option.map Sl.d w4]):=⟨_,rfl⟩
 refine seq_goP (for_q (n:=ns.length) (item:=fun i=>.int (1+(i:Int))) (p1:=_) (fun Q h=>by
  simp only [Q,S_many_to]
  refine ⟨by omega,bg _ (by omega),b0,b1,by omega,by omega,?_⟩
  rw [show (M.cnt b (N:Int)+1 - 1).toNat=ns.length by omega]
  exact h) I (by rw [hI];exact ⟨none,none,rfl⟩) ?_ ?_)
 ·intro i p hi hp
  rw [hI] at hp
  obtain ⟨w3,w4,rfl⟩:=hp
  obtain ⟨m1,m2,m3,m4⟩:=at' i hi
  generalize hy:ns.getD i 0=y at *
  simp only [R]
  refine seq_goK fun kk hkk=>?_
  simp only [R,S_mirrored_at]
  refine ⟨by omega,Int.le_trans (show 1+(i:Int)<=80000 by omega) (by decide),b0,b1,fun m mp pm lm=>?_⟩
  have em:=M.pl_inj b0 mp m1 (by omega)
  subst em
  refine hkk _ ?_
  clear hkk kk
  simp only [Q,S_many_to]
  refine ⟨by split<;>omega,bg _ (by split<;>omega),b0,b1,?_⟩
  rw [hI]
  refine ⟨some (.int (1+(i:Int))),some (.int m),?_⟩
  have es:((ns.take (i+1)).map (M.prsOf b (N:Int))).sum=((ns.take i).map (M.prsOf b (N:Int))).sum+M.prsOf b (N:Int) m:=by
   rw [List.take_succ,List.getElem?_eq_getElem hi,List.map_append,List.sum_append]
   have:ns[i]=m:=by rw [<-hy,List.getD_eq_getElem?_getD,List.getElem?_eq_getElem hi];rfl
   simp [this]
  rw [es]
  unfold M.prsOf
  rfl
 ·intro p hp
  rw [hI] at hp
  obtain ⟨w3,w4,rfl⟩:=hp
  rw [List.take_length,pt]
  simp only [Q]
  exact q
end
abbrev s_mirrored_to:Stmt:=top 22
abbrev A_mirrored_to (K:PySem.W.Frag) (mg:Str->Option Value):=DefAt K mg "mirrored_to" s_mirrored_to ["bound","base"]
theorem sc_mirrored_to:FnScope ["bound","base","told","length","least","front","mirrored"] ["bound","base"] (defScope s_mirrored_to):=⟨rfl,rfl,rfl,by decide +kernel,rfl,by decide +kernel,by decide +kernel⟩
section
variable {P:Program} {w:World} {K:PySem.W.Frag} {mg:Str->Option Value} {base:Heap}
def S_mirrored_to:PSp:=fun as R=>∃n b:Int,as=[.d (.int n),.d (.int b)]/\0<=n/\n<=10 ^ 6/\2<=b/\b<=36/\R (.ro ((M.mto b n).map D.int)) as
theorem ok_mirrored_to (T:Txt mg) (Df:A_mirrored_to K mg) (D_power:A_power K mg) (D_least_front:A_least_front K mg) (D_from_front:A_from_front K mg) (D_is_whole:A_is_whole K mg) (D_check_base:A_check_base K mg) (D_figures:A_figures K mg):FnOk P w K mg base CX0 4 Df.f Df.fd ["bound","base"] (spOf K S_mirrored_to):=by
 have G_least_front:=ok_least_front (P:=P) (w:=w) (base:=base) T D_least_front D_power
 have G_from_front:=ok_from_front (P:=P) (w:=w) (base:=base) T D_from_front
 have G_figures:=ok_figures (P:=P) (w:=w) (base:=base) T D_figures D_is_whole D_check_base
 refine Df.F.okP sc_mirrored_to (fun as R h=>?_) (fun cdv A outer s H E C as R hK hr h=>?_)
 ·obtain ⟨_,_,rfl,_⟩:=h;rfl
 have hu:=hr.units
 obtain ⟨n,b,rfl,n0,n1,b0,b1,q⟩:=h
 have nB:n<M.Big:=M.big_40 (Int.le_trans n1 (by decide))
 have l0:=M.ln_pos b0 n0
 have l1:=M.ln_le b0 n0 nB
 have hl:(M.fg b n).length=M.ln b n:=rfl
 have nl:=M.ln_lt b0 n0
 have len6:∀m:Int,0<=m->m<=n->(M.mto b m).length<80000:=fun m m0 m1=>by
  have h1:=M.mto_len b m
  have h2:=M.cnt_le6 b0 b1 m0 (by omega)
  omega
 have bL:b ^ M.ln b n<=36 * 10 ^ 6+36:=by
  by_cases hz:n=0
  ·have e:M.ln b n=1:=by rw [hz];unfold M.ln;rw [M.fg_zero b0];rfl
   rw [e,M.pow1]
   omega
  ·have g:=M.ln_ge b0 (show 1<=n by omega)
   obtain ⟨j,hj⟩:∃j,M.ln b n=j+1:=⟨M.ln b n - 1,by omega⟩
   rw [hj] at g ⊢
   rw [Nat.add_sub_cancel] at g
   rw [Int.pow_succ]
   have h1:b ^ j * b<=n * b:=Int.mul_le_mul_of_nonneg_right g (by omega)
   have h2:n * b<=10 ^ 6 * 36:=Int.mul_le_mul n1 b1 (by omega) (by decide)
   omega
 refine ⟨_,(s_cons (s_setN (i:=2) sc_mirrored_to.nd rfl (by simp only [L2.QL]) (n_lst a_nil))
    (s_cons (s_for PassesOwn.never rfl (i_range2 rfl T.z_range (a_cons (q_c pe_int (fun _=>.int _)) (a_cons (q_add (cb_len hK rfl T.z_len (a_cons (q_fz (n_call hK D_figures G_figures (hr.mono (by first|decide|omega)) (a_cons (q_var (pv 0)) (a_cons (q_var (pv 1)) a_nil)))) a_nil)) (q_c pe_int (fun _=>.int _))) a_nil))) (g_name (i:=3) sc_mirrored_to.nd rfl (by simp only [L2.QL])) (s_cons (s_set (i:=4) sc_mirrored_to.nd rfl (by simp only [L2.QL]) (q_fz (n_call hK D_least_front G_least_front (hr.mono (by first|decide|omega)) (a_cons (q_var (pv 3)) (a_cons (q_var (pv 1)) a_nil)))))
    (s_one (s_for PassesOwn.never rfl (i_range2 rfl T.z_range (a_cons (q_var (pv 4)) (a_cons (q_mul (q_var (pv 4)) (q_var (pv 1))) a_nil))) (g_name (i:=5) sc_mirrored_to.nd rfl (by simp only [L2.QL])) (s_cons (s_set (i:=6) sc_mirrored_to.nd rfl (by simp only [L2.QL]) (q_fz (n_call hK D_from_front G_from_front (hr.mono (by first|decide|omega)) (a_cons (q_var (pv 5)) (a_cons (q_var (pv 3)) (a_cons (q_var (pv 1)) a_nil))))))
    (s_cons (s_if (t_gt (q_var (pv 6)) (q_var (pv 0))) (s_one (s_retO (i:=2) (pv 2))) s_nil)
    (s_one (s_expr (m_append hK (pv 2) (a_cons (q_var (pv 6)) a_nil))))))))))
    (s_one (s_retO (i:=2) (pv 2))))),?_⟩
 refine seq_goP ?_
 simp only [R]
 obtain ⟨I,hI⟩:∃I:Nat->PSt->Prop,I=(fun i p=>∃w3 w4 w5 w6:Option (D ⊕ List D),b ^ i - 1<=n/\p=[some (.d (.int n)),some (.d (.int b)),some (.own ((M.mto b (b ^ i - 1)).map D.int)),Any w3,Any w4,Any w5,Any w6]):=⟨_,rfl⟩
 refine seq_goP (for_i ?_)
 simp only [R,S_figures,List.length_map,hl]
 have eL:((M.ln b n:Int)+1 - 1).toNat=M.ln b n:=by omega
 rw [eL]
 refine ⟨n0,nB,b0,b1,by omega,by omega,I,by rw [hI];exact ⟨none,none,none,none,by rw [Int.pow_zero];omega,by rw [Int.pow_zero];rfl⟩,?_,?_⟩
 ·intro i p hi hp
  rw [hI] at hp
  obtain ⟨w3,w4,w5,w6,hle,rfl⟩:=hp
  have ei:(1:Int)+i=((i+1:Nat):Int):=by omega
  rw [ei]
  have i0:1<=i+1:=by omega
  have h0:=M.hf_pos i0
  have pw:=M.pow_pos' (show 0<b by omega) (M.hf (i+1) - 1)
  obtain ⟨cn,hcn⟩:∃cn:Nat,(cn:Int)=b ^ M.hf (i+1) - b ^ (M.hf (i+1) - 1):=⟨(b ^ M.hf (i+1) - b ^ (M.hf (i+1) - 1)).toNat,by
   have:=M.pow_le (b:=b) (by omega) (show M.hf (i+1) - 1<=M.hf (i+1) by omega)
   omega⟩
  have eb:b ^ (M.hf (i+1) - 1) * b=b ^ M.hf (i+1):=by rw [<-Int.pow_succ];congr 1;omega
  simp only [R]
  refine seq_goP ?_
  simp only [R,S_least_front]
  refine ⟨i+1,by first|rfl|trivial|omega,by omega,b1,by omega,?_⟩
  refine for_i ?_
  simp only [R,eb]
  have bg1:=M.pow_le (b:=b) (by omega) (show M.hf (i+1)<=M.ln b n by unfold M.hf;omega)
  have bg2:=M.pow_le (b:=b) (by omega) (show M.hf (i+1) - 1<=M.hf (i+1) by omega)
  have ec:(b ^ M.hf (i+1) - b ^ (M.hf (i+1) - 1)).toNat=cn:=by omega
  have c1:1<=cn:=by
   have:=Int.mul_le_mul_of_nonneg_left b0 (show 0<=b ^ (M.hf (i+1) - 1) by omega)
   omega
  rw [ec]
  obtain ⟨J,hJ⟩:∃J:Nat->PSt->Prop,J=(fun (j:Nat) p=>∃(m0:Int) (w5 w6:Option (D ⊕ List D)),(j=0->m0=b ^ i - 1)/\(1<=j->m0=M.pal b (b ^ (M.hf (i+1) - 1)+(j:Int) - 1) (i+1))/\m0<=n/\M.Mp b m0/\p=[some (.d (.int n)),some (.d (.int b)),some (.own ((M.mto b m0).map D.int)),some (.d (.int ((i+1:Nat):Int))),some (.d (.int (b ^ (M.hf (i+1) - 1)))),Any w5,Any w6]):=⟨_,rfl⟩
  refine ⟨.inr ⟨by omega,by omega⟩,by omega,by omega,by omega,by omega,J,by rw [hJ];exact ⟨b ^ i - 1,w5,w6,fun _=>rfl,fun z=>absurd z (by decide),hle,M.nines_mp b0 i,rfl⟩,?_,?_⟩
  ·intro j p hj hp
   rw [hJ] at hp
   obtain ⟨m0,w5,w6,e1,e2,hm,mp,rfl⟩:=hp
   have F:M.Fr b (b ^ (M.hf (i+1) - 1)+(j:Int)) (i+1):=⟨b0,i0,by omega,by omega⟩
   have e3:palz b (b ^ (M.hf (i+1) - 1)+(j:Int)) (i+1)=M.pal b (b ^ (M.hf (i+1) - 1)+(j:Int)) (i+1):=by
    unfold palz;rw [if_neg (by have:=F.pos;omega)]
   have nx:M.Nx b m0 (M.pal b (b ^ (M.hf (i+1) - 1)+(j:Int)) (i+1)):=by
    by_cases z:j=0
    ·rw [e1 z,z]
     have:=M.nx_least b0 i0
     rw [Nat.add_sub_cancel] at this
     rw [show b ^ (M.hf (i+1) - 1)+((0:Nat):Int)=b ^ (M.hf (i+1) - 1) by omega]
     exact this
    ·rw [e2 (by omega)]
     have F0:M.Fr b (b ^ (M.hf (i+1) - 1)+(j:Int) - 1) (i+1):=⟨b0,i0,by omega,by omega⟩
     have F1:M.Fr b (b ^ (M.hf (i+1) - 1)+(j:Int) - 1+1) (i+1):=by rw [Int.sub_add_cancel];exact F
     have:=M.nx_in F0 F1
     rw [Int.sub_add_cancel] at this
     exact this
   have st:=M.mto_step mp nx
   have mp2:=F.mp
   have ln6:=len6 m0 mp.1 hm
   generalize hG:M.pal b (b ^ (M.hf (i+1) - 1)+(j:Int)) (i+1)=m at *
   simp only [Q,S_from_front]
   refine ⟨i+1,by first|rfl|trivial|omega,b0,b1,by omega,.inr F,?_⟩
   rw [e3]
   refine ite2 (fun c=>?_) (fun c=>?_)
   ·rw [<-M.mto_gap mp nx hm c]
    exact q
   ·refine ⟨by rw [List.length_map];omega,?_⟩
    rw [hJ]
    refine ⟨m,some (.inl (.int (b ^ (M.hf (i+1) - 1)+(j:Int)))),some (.inl (.int m)),fun z=>absurd z (by omega),fun _=>?_,by omega,mp2,?_⟩
    ·rw [<-hG];congr 1;push_cast;omega
    ·rw [st,List.map_append];rfl
  ·intro p hp
   rw [hJ] at hp
   obtain ⟨m0,w5,w6,e1,e2,hm,mp,rfl⟩:=hp
   have e3:m0=b ^ (i+1) - 1:=by
    rw [e2 c1,show b ^ (M.hf (i+1) - 1)+(cn:Int) - 1=b ^ M.hf (i+1) - 1 by omega]
    exact (M.nines b0 i0).2
   rw [hI]
   subst e3
   exact ⟨some (.inl (.int ((i+1:Nat):Int))),some (.inl (.int (b ^ (M.hf (i+1) - 1)))),w5,w6,hm,rfl⟩
 ·intro p hp
  rw [hI] at hp
  obtain ⟨w3,w4,w5,w6,hle,rfl⟩:=hp
  have e:b ^ M.ln b n - 1=n:=by omega
  rw [e]
  simp only [Q]
  exact q
end
abbrev s_by_two:Stmt:=top 24
abbrev A_by_two (K:PySem.W.Frag) (mg:Str->Option Value):=DefAt K mg "by_two" s_by_two ["number","base"]
theorem sc_by_two:FnScope ["number","base"] ["number","base"] (defScope s_by_two):=⟨rfl,rfl,rfl,by decide +kernel,rfl,by decide +kernel,by decide +kernel⟩
abbrev s_many_by_two:Stmt:=top 25
abbrev A_many_by_two (K:PySem.W.Frag) (mg:Str->Option Value):=DefAt K mg "many_by_two" s_many_by_two ["number","base"]
theorem sc_many_by_two:FnScope ["number","base"] ["number","base"] (defScope s_many_by_two):=⟨rfl,rfl,rfl,by decide +kernel,rfl,by decide +kernel,by decide +kernel⟩
section
variable {P:Program} {w:World} {K:PySem.W.Frag} {mg:Str->Option Value} {base:Heap}
def S_by_two:PSp:=fun as R=>∃n b:Int,as=[.d (.int n),.d (.int b)]/\0<=n/\n<=10 ^ 6/\2<=b/\b<=36/\R (.ro ((M.tw b n).map fun x=>D.lst [.int (n - x),.int x])) as
theorem mto_half {b n:Int} (b0:2<=b) (b1:b<=36) (n0:0<=n) (n1:n<=10 ^ 6):(M.mto b (n / 2)).length<80000/\∀i,i<(M.mto b (n / 2)).length->1<=(M.mto b (n / 2)).getD i 0/\(M.mto b (n / 2)).getD i 0<=n / 2/\M.mir b ((M.mto b (n / 2)).getD i 0)=true:=by
 have h1:=M.mto_len b (n / 2)
 have h2:=M.cnt_le6 (n:=n / 2) b0 b1 (by omega) (by omega)
 refine ⟨by omega,fun i hi=>?_⟩
 refine (M.mem_mto (by omega)).mp ?_
 rw [List.getD_eq_getElem?_getD,List.getElem?_eq_getElem hi];exact List.getElem_mem hi
theorem ok_by_two (T:Txt mg) (Df:A_by_two K mg) (D_is_whole:A_is_whole K mg) (D_check_base:A_check_base K mg) (D_power:A_power K mg) (D_least_front:A_least_front K mg) (D_from_front:A_from_front K mg) (D_figures:A_figures K mg) (D_mirrored_to:A_mirrored_to K mg) (D_is_mirrored:A_is_mirrored K mg):FnOk P w K mg base CX0 5 Df.f Df.fd ["number","base"] (spOf K S_by_two):=by
 have G_check_base:=ok_check_base (P:=P) (w:=w) (base:=base) T D_check_base D_is_whole
 have G_mirrored_to:=ok_mirrored_to (P:=P) (w:=w) (base:=base) T D_mirrored_to D_power D_least_front D_from_front D_is_whole D_check_base D_figures
 have G_is_mirrored:=ok_is_mirrored (P:=P) (w:=w) (base:=base) T D_is_mirrored D_is_whole D_check_base D_figures
 refine Df.F.okP sc_by_two (fun as R h=>?_) (fun cdv A outer s H E C as R hK hr h=>?_)
 ·obtain ⟨_,_,rfl,_⟩:=h;rfl
 have hu:=hr.units
 obtain ⟨n,b,rfl,n0,n1,b0,b1,q⟩:=h
 have nB:n<M.Big:=M.big_40 (Int.le_trans n1 (by decide))
 obtain ⟨lm,am⟩:=mto_half b0 b1 n0 n1
 have fr:=M.filter_range (fun x=>M.mir b (n - x)) (fun x=>D.lst [.int (n - x),.int x]) (M.mto b (n / 2))
 unfold M.tw at q
 rw [<-fr] at q
 generalize hG:M.mto b (n / 2)=xs at *
 refine ⟨_,(s_cons (s_expr (q_fz (n_call hK D_check_base G_check_base (hr.mono (by first|decide|omega)) (a_cons (q_var (pv 1)) a_nil))))
    (s_one (s_ret (n_comp (N:=["lesser","number","base"]) (k:=1) (CompScope.of (show CompSc (defScope s_by_two) ["number","base"] _ ["lesser","number","base"] 1 from ⟨by rfl,by decide +kernel,by decide +kernel,by rfl,by decide +kernel,by decide +kernel,by decide +kernel,by decide +kernel⟩)) rfl (i_list hK (q_fz (n_call hK D_mirrored_to G_mirrored_to (hr.mono (by first|decide|omega)) (a_cons (q_fdiv (q_var (pv 0)) (q_c pe_int (fun _=>.int _))) (a_cons (q_var (pv 1)) a_nil))))) (fun Z s H fp=>(gk_name (i:=0) (by decide) (show List.Nodup (["lesser","number","base"]:List Str) by decide +kernel) rfl (Or.inl rfl) (Or.inr rfl))) (fun Z s H fp=>(ts_one (t_val (q_fz (n_call hK D_is_mirrored G_is_mirrored (hr.mono (by first|decide|omega)) (a_cons (q_sub (q_var (pv 1)) (q_var (pv 0))) (a_cons (q_var (pv 2)) a_nil))))))) (fun Z s H fp=>(q_fz (n_lst (a_cons (q_sub (q_var (pv 1)) (q_var (pv 0))) (a_cons (q_var (pv 0)) a_nil))))))))),?_⟩
 refine seq_goP ?_
 simp only [R,S_check_base]
 refine ⟨b0,b1,?_⟩
 simp only [R]
 refine comp_filter (n:=xs.length) (item:=fun i=>(xs.map D.int).getD i .non) (p1:=_) (fun Q h=>by
   simp only [Q,S_mirrored_to,hG,List.length_map]
   exact ⟨by omega,by omega,b0,b1,h⟩) (by omega) (fun i=>M.mir b (n - xs.getD i 0)) (fun i=>.lst [.int (n - xs.getD i 0),.int (xs.getD i 0)]) (fun i R hi h=>?_) (fun i R hi hf h=>?_) ?_
 ·obtain ⟨a1,a2,a3⟩:=am i hi
  rw [getD_ints hi] at h ⊢
  simp only [Q,S_is_mirrored]
  exact ⟨by omega,by omega,b0,b1,h⟩
 ·rw [getD_ints hi] at h ⊢
  simp only [Q]
  exact h
 simp only [Q]
 exact q
def S_many_by_two:PSp:=fun as R=>∃n b:Int,as=[.d (.int n),.d (.int b)]/\0<=n/\n<=10 ^ 6/\2<=b/\b<=36/\R (.rd (.int ((M.tw b n).length:Int))) as
theorem ok_many_by_two (T:Txt mg) (Df:A_many_by_two K mg) (D_is_whole:A_is_whole K mg) (D_check_base:A_check_base K mg) (D_power:A_power K mg) (D_least_front:A_least_front K mg) (D_from_front:A_from_front K mg) (D_figures:A_figures K mg) (D_mirrored_to:A_mirrored_to K mg) (D_is_mirrored:A_is_mirrored K mg) (D_by_two:A_by_two K mg):FnOk P w K mg base CX0 6 Df.f Df.fd ["number","base"] (spOf K S_many_by_two):=by
 have G_check_base:=ok_check_base (P:=P) (w:=w) (base:=base) T D_check_base D_is_whole
 have G_by_two:=ok_by_two (P:=P) (w:=w) (base:=base) T D_by_two D_is_whole D_check_base D_power D_least_front D_from_front D_figures D_mirrored_to D_is_mirrored
 refine Df.F.okP sc_many_by_two (fun as R h=>?_) (fun cdv A outer s H E C as R hK hr h=>?_)
 ·obtain ⟨_,_,rfl,_⟩:=h;rfl
 have hu:=hr.units
 obtain ⟨n,b,rfl,n0,n1,b0,b1,q⟩:=h
 refine ⟨_,(s_cons (s_expr (q_fz (n_call hK D_check_base G_check_base (hr.mono (by first|decide|omega)) (a_cons (q_var (pv 1)) a_nil))))
    (s_one (s_ret (n_val (cb_len hK rfl T.z_len (a_cons (q_fz (n_call hK D_by_two G_by_two (hr.mono (by first|decide|omega)) (a_cons (q_var (pv 0)) (a_cons (q_var (pv 1)) a_nil)))) a_nil)))))),?_⟩;simp only [Q,and_assoc,S_check_base,S_by_two]
 refine ⟨b0,b1,n0,n1,b0,b1,?_⟩
 simp only [Q,List.length_map]
 exact q
end
abbrev s_law_places_right:Stmt:=top 37
abbrev A_law_places_right (K:PySem.W.Frag) (mg:Str->Option Value):=DefAt K mg "_law_places_right" s_law_places_right ["bound","base"]
theorem sc_law_places_right:FnScope ["bound","base","seen","number","one","other","key"] ["bound","base"] (defScope s_law_places_right):=⟨rfl,rfl,rfl,by decide +kernel,rfl,by decide +kernel,by decide +kernel⟩
section
variable {P:Program} {w:World} {K:PySem.W.Frag} {mg:Str->Option Value} {base:Heap}
theorem two_at {n:Int} {L:List Int} {j:Nat} (hj:j<L.length):(L.map fun x=>D.lst [.int (n - x),.int x]).getD j .non=.lst [.int (n - L.getD j 0),.int (L.getD j 0)]:=by
 rw [List.getD_eq_getElem?_getD,List.getElem?_map,List.getElem?_eq_getElem hj,List.getD_eq_getElem?_getD,List.getElem?_eq_getElem hj];rfl
def Stood (b:Int) (n:Nat) (j:Nat) (k:List Key):Prop:=∃y x:Int,M.Mp b y/\M.Mp b x/\k=[Sum.inl (M.pl b y),Sum.inl (M.pl b x)]/\(y+x<(n:Int)\/y+x=(n:Int)/\∃i,i<j/\i<(M.tw b (n:Int)).length/\x=(M.tw b (n:Int)).getD i 0)
theorem val_none {kvs:List (List Key × V)} {k:List Key} (h:∀kv∈kvs,kv.1≠k):valV kvs k=none:=by
 unfold valV
 rw [List.find?_eq_none.mpr,Option.map_none]
 intro kv hk
 simpa using h kv hk
def S_law_places_right:PSp:=fun as R=>∃(N:Nat) (b:Int),as=[.d (.int (N:Int)),.d (.int b)]/\N<=300/\2<=b/\b<=36/\R (.rd (.bl true)) as
theorem ok_law_places_right (T:Txt mg) (Df:A_law_places_right K mg) (D_is_whole:A_is_whole K mg) (D_check_base:A_check_base K mg) (D_power:A_power K mg) (D_least_front:A_least_front K mg) (D_from_front:A_from_front K mg) (D_figures:A_figures K mg) (D_mirrored_to:A_mirrored_to K mg) (D_is_mirrored:A_is_mirrored K mg) (D_by_two:A_by_two K mg) (D_many_to_length:A_many_to_length K mg) (D_mirrored_at:A_mirrored_at K mg) (D_front_of:A_front_of K mg) (D_place_of:A_place_of K mg) (D_folded:A_folded K mg) (D_at_most:A_at_most K mg) (D_many_to:A_many_to K mg) (D_law_pairs:A_law_pairs K mg):FnOk P w K mg base CX0 8 Df.f Df.fd ["bound","base"] (spOf K S_law_places_right):=by
 have G_by_two:=ok_by_two (P:=P) (w:=w) (base:=base) T D_by_two D_is_whole D_check_base D_power D_least_front D_from_front D_figures D_mirrored_to D_is_mirrored
 have G_law_pairs:=ok_law_pairs (P:=P) (w:=w) (base:=base) T D_law_pairs D_is_whole D_check_base D_from_front D_power D_many_to_length D_least_front D_mirrored_at D_figures D_is_mirrored D_front_of D_place_of D_folded D_at_most D_many_to
 have G_place_of:=ok_place_of (P:=P) (w:=w) (base:=base) T D_place_of D_is_whole D_check_base D_figures D_is_mirrored D_power D_front_of D_least_front D_many_to_length
 refine Df.F.okP sc_law_places_right (fun as R h=>?_) (fun cdv A outer s H E C as R hK hr h=>?_)
 ·obtain ⟨_,_,rfl,_⟩:=h;rfl
 have hu:=hr.units
 obtain ⟨N,b,rfl,N1,b0,b1,q⟩:=h
 have bg:∀m:Int,m<=300->m<M.Big:=fun m hm=>M.big_40 (Int.le_trans hm (by decide))
 refine ⟨_,(ss_ofV (v_cons (v_set (i:=2) sc_law_places_right.nd rfl (by simp only [L2.QL]) e_dicT)
    (v_cons (v_for PassesOwn.never rfl (fun W ok=>(i_range1 rfl T.z_range (a_cons (q_add (q_var (pv 0)) (q_c pe_int (fun _=>.int _))) a_nil))) (fun W ok=>(g_name (i:=3) sc_law_places_right.nd rfl (by simp only [L2.QL]))) (v_one (v_for PassesOwn.never rfl (fun W ok=>(i_list hK (q_fz (n_call hK D_by_two G_by_two (hr.mono (by first|decide|omega)) (a_cons (q_var (pv 3)) (a_cons (q_var (pv 1)) a_nil)))))) (fun W ok=>(g_tupL (n:=2) hK rfl (gs_cons (g_name (i:=4) sc_law_places_right.nd rfl (by simp only [L2.QL])) (gs_cons (g_name (i:=5) sc_law_places_right.nd rfl (by simp only [L2.QL])) gs_nil)))) (v_cons (v_lift (fun W ok=>(s_set (i:=6) sc_law_places_right.nd rfl (by simp only [L2.QL]) (q_tup (a_cons (q_fz (n_call hK D_place_of G_place_of (hr.mono (by first|decide|omega)) (a_cons (q_var (pv 4)) (a_cons (q_var (pv 1)) a_nil)))) (a_cons (q_fz (n_call hK D_place_of G_place_of (hr.mono (by first|decide|omega)) (a_cons (q_var (pv 5)) (a_cons (q_var (pv 1)) a_nil)))) a_nil))))))
    (v_cons (v_lift (fun W ok=>(s_if (PW.pt (w_or (t_inT ok hu (q_var (pv 6)) (q_var (pv 2))) (w_or (t_lt (q_ix hK (q_var (pv 6)) (q_c pe_int (fun _=>.int _)) (fun _ _=>rfl)) (q_ix hK (q_var (pv 6)) (q_c pe_int (fun _=>.int _)) (fun _ _=>rfl))) (w_or1 (t_lt (q_ix hK (q_var (pv 6)) (q_c pe_int (fun _=>.int _)) (fun _ _=>rfl)) (q_c pe_int (fun _=>.int _))))))) (s_one (s_ret (n_val (q_c pe_bl (fun _=>.bl _))))) s_nil)))
    (v_one (v_putT hu (fun W ok=>(q_var (pv 3))) (fun W ok=>(q_var (pv 2))) (fun W ok=>(q_var (pv 6))))))))))
    (v_one (v_lift (fun W ok=>(s_ret (n_val (q_eq hK hu (cb_lenT ok rfl T.z_len (a_cons (q_var (pv 2)) a_nil)) (q_fz (n_call hK D_law_pairs G_law_pairs (hr.mono (by first|decide|omega)) (a_cons (q_var (pv 0)) (a_cons (q_var (pv 1)) a_nil))))))))))))),?_⟩
 show vSeq _ _ _ _ _
 refine vseq_goK fun kk hkk=>?_
 simp only [R]
 intro a ha
 refine hkk _ _ ?_
 clear hkk kk
 refine vseq_goK fun kk hkk=>?_
 obtain ⟨I,hI⟩:∃I:Nat->Hp->PSt->Prop,I=(fun i W p=>∃kvs:List (List Key × V),W a=some (.dT kvs)/\(kvs.length:Int)=M.twsum b i/\(∀kv∈kvs,Stood b i 0 kv.1)/\∃w3 w4 w5 w6:Option D,p=[some (.d (.int (N:Int))),some (.d (.int b)),some (.d (.atom (.ref a))),Option.map Sl.d w3,Option.map Sl.d w4,Option.map Sl.d w5,Option.map Sl.d w6]):=⟨_,rfl⟩
 refine vfor_q (n:=N+1) (item:=fun i=>.int i) (p1:=_) (fun Q h=>by
  simp only [Q]
  rw [show ((N:Int)+1).toNat=N+1 by omega]
  exact ⟨by omega,by omega,h⟩) I (by
  rw [hI]
  exact ⟨[],upd_same,rfl,fun kv h=>(nomatch h),none,none,none,none,rfl⟩) ?_ ?_
 ·intro n W p hn hp
  rw [hI] at hp
  obtain ⟨kvs,hW,ln,st,w3,w4,w5,w6,rfl⟩:=hp
  have n0:(0:Int)<=n:=by omega
  have tl:=M.tw_few (b:=b) (n:=n)
  have ts:=M.tws_few (b:=b) (k:=n) (by omega)
  have up:=M.tw_sorted b (n:Int)
  have mm:∀x∈M.tw b (n:Int),_:=fun x hx=>(M.mem_tw n0).mp hx
  simp only [R]
  obtain ⟨J,hJ⟩:∃J:Nat->Hp->PSt->Prop,J=(fun (j:Nat) (W:Hp) (p:PSt)=>∃kvs:List (List Key × V),W a=some (.dT kvs)/\(kvs.length:Int)=M.twsum b n+(j:Int)/\(∀kv∈kvs,Stood b n j kv.1)/\∃w4 w5 w6:Option D,p=[some (.d (.int (N:Int))),some (.d (.int b)),some (.d (.atom (.ref a))),some (.d (.int (n:Int))),Option.map Sl.d w4,Option.map Sl.d w5,Option.map Sl.d w6]):=⟨_,rfl⟩
  refine vfor_q (n:=(M.tw b (n:Int)).length) (item:=fun j=>((M.tw b (n:Int)).map fun x=>D.lst [.int ((n:Int) - x),.int x]).getD j .non) (p1:=_) (fun Q h=>by
   simp only [Q,S_by_two,List.length_map]
   exact ⟨n0,by omega,b0,b1,h⟩) J (by
   rw [hJ]
   exact ⟨kvs,hW,by omega,st,w4,w5,w6,rfl⟩) ?_ ?_
  ·intro j W p hj hp
   rw [hJ] at hp
   obtain ⟨kvs,hW,ln,st,w4,w5,w6,rfl⟩:=hp
   rw [two_at hj]
   obtain ⟨⟨x1,x2,x3⟩,x4⟩:=mm _ (M.at_mem hj)
   obtain ⟨x,hx⟩:∃x,(M.tw b (n:Int)).getD j 0=x:=⟨_,rfl⟩
   rw [hx] at x1 x2 x3 x4 ⊢
   have mx:M.Mp b x:=⟨by omega,x3⟩
   have my:M.Mp b ((n:Int) - x):=⟨by omega,x4⟩
   have px:1<=M.pl b x:=by
    have h1:=M.pl_cnt b0 (show 0<=x by omega) (M.AM.self mx)
    have h2:=M.cnt_pos b0 x1
    omega
   have pxy:M.pl b x<=M.pl b ((n:Int) - x):=by
    by_cases e:x=(n:Int) - x
    ·rw [<-e];exact Int.le_refl _
    ·exact Int.le_of_lt (M.pl_lt b0 mx my (by omega))
   have nw:∀kv∈kvs,kv.1≠[Sum.inl (M.pl b ((n:Int) - x)),Sum.inl (M.pl b x)]:=fun kv hk e=>by
    obtain ⟨y',x',h1,h2,h3,h4⟩:=st kv hk
    rw [h3] at e
    injection e with e1 e2
    injection e1 with e1
    injection e2 with e2
    injection e2 with e2
    have ey:=M.pl_inj b0 h1 my e1
    have ex:=M.pl_inj b0 h2 mx e2
    rcases h4 with h4|⟨h4,i,i1,i2,i3⟩
    ·omega
    ·have:=M.getD_lt up hj i1
     omega
   have vn:=val_none nw
   simp only [R]
   refine vseq_goK fun k1 hk1=>?_
   simp only [R,S_place_of]
   refine ⟨my,bg _ (by omega),b0,b1,mx,bg _ (by omega),b0,b1,hk1 _ _ ?_⟩
   clear hk1 k1
   refine vseq_goK fun k1 hk1=>?_
   simp only [R]
   refine ⟨kvs,hW,?_⟩
   rw [vn]
   rw [if_neg (by simp),if_neg (by omega),if_neg (by omega)]
   refine hk1 _ _ ?_
   clear hk1 k1
   simp only [R]
   refine ⟨kvs,hW,by rw [sizeLine_eq];omega,?_⟩
   rw [putK_new _ vn,hJ]
   refine ⟨_,upd_same,by rw [List.length_append,List.length_singleton];omega,fun kv hk=>?_,some _,some _,some _,rfl⟩
   rcases List.mem_append.mp hk with hk|hk
   ·obtain ⟨y',x',h1,h2,h3,h4⟩:=st kv hk
    refine ⟨y',x',h1,h2,h3,?_⟩
    rcases h4 with h4|⟨h4,i,i1,i2⟩
    ·exact .inl h4
    ·exact .inr ⟨h4,i,by omega,i2⟩
   ·rw [List.mem_singleton] at hk
    rw [hk]
    exact ⟨(n:Int) - x,x,my,mx,rfl,.inr ⟨by omega,j,by omega,hj,hx.symm⟩⟩
  intro W p hp
  rw [hJ] at hp
  obtain ⟨kvs,hW,ln,st,w4,w5,w6,rfl⟩:=hp
  show I (n+1) W _
  rw [hI]
  refine ⟨kvs,hW,ln,fun kv hk=>?_,some _,w4,w5,w6,rfl⟩
  obtain ⟨y,x,h1,h2,h3,h4⟩:=st kv hk
  exact ⟨y,x,h1,h2,h3,.inl (by rcases h4 with h4|⟨h4,_⟩<;>omega)⟩
 intro W p hp
 rw [hI] at hp
 obtain ⟨kvs,hW,ln,st,w3,w4,w5,w6,rfl⟩:=hp
 refine hkk _ _ ?_
 simp only [Q,S_law_pairs]
 refine ⟨kvs,hW,N,rfl,N1,b0,b1,?_⟩
 rw [decide_eq_true ln]
 exact q
end
abbrev s_a_few:Stmt:=top 27
abbrev A_a_few (K:PySem.W.Frag) (mg:Str->Option Value):=DefAt K mg "a_few" s_a_few ["number","base"]
theorem sc_a_few:FnScope ["number","base","told","left","greatest"] ["number","base"] (defScope s_a_few):=⟨rfl,rfl,rfl,by decide +kernel,rfl,by decide +kernel,by decide +kernel⟩
section
variable {P:Program} {w:World} {K:PySem.W.Frag} {mg:Str->Option Value} {base:Heap}
def S_a_few:PSp:=fun as R=>∃n b:Int,as=[.d (.int n),.d (.int b)]/\0<=n/\n<M.Big/\2<=b/\b<=36/\∀L,M.Fw b n L->R (.ro (L.map D.int)) as
theorem ok_a_few (T:Txt mg) (Df:A_a_few K mg) (D_is_whole:A_is_whole K mg) (D_check_base:A_check_base K mg) (D_power:A_power K mg) (D_front_of:A_front_of K mg) (D_figures:A_figures K mg) (D_from_front:A_from_front K mg) (D_folded:A_folded K mg) (D_least_front:A_least_front K mg) (D_at_most:A_at_most K mg):FnOk P w K mg base CX0 6 Df.f Df.fd ["number","base"] (spOf K S_a_few):=by
 have G_check_base:=ok_check_base (P:=P) (w:=w) (base:=base) T D_check_base D_is_whole
 have G_at_most:=ok_at_most (P:=P) (w:=w) (base:=base) T D_at_most D_is_whole D_check_base D_power D_front_of D_figures D_from_front D_folded D_least_front
 refine Df.F.okP sc_a_few (fun as R h=>?_) (fun cdv A outer s H E C as R hK hr h=>?_)
 ·obtain ⟨_,_,rfl,_⟩:=h;rfl
 have hu:=hr.units
 obtain ⟨n,b,rfl,n0,n1,b0,b1,q⟩:=h
 refine ⟨_,(s_cons (s_expr (q_fz (n_call hK D_check_base G_check_base (hr.mono (by first|decide|omega)) (a_cons (q_var (pv 1)) a_nil))))
    (s_cons (s_setN (i:=2) sc_a_few.nd rfl (by simp only [L2.QL]) (n_lst a_nil))
    (s_cons (s_set (i:=3) sc_a_few.nd rfl (by simp only [L2.QL]) (q_var (pv 0)))
    (s_cons (s_while PassesOwn.never (t_gt (q_var (pv 3)) (q_c pe_int (fun _=>.int _))) (s_cons (s_set (i:=4) sc_a_few.nd rfl (by simp only [L2.QL]) (q_fz (n_call hK D_at_most G_at_most (hr.mono (by first|decide|omega)) (a_cons (q_var (pv 3)) (a_cons (q_var (pv 1)) a_nil)))))
    (s_cons (s_expr (m_append hK (pv 2) (a_cons (q_var (pv 4)) a_nil)))
    (s_one (s_isub (i:=3) sc_a_few.nd rfl (by simp only [L2.QL]) (q_var (pv 4)))))))
    (s_one (s_retO (i:=2) (pv 2))))))),?_⟩;simp only [Q,and_assoc,S_check_base,S_at_most]
 refine ⟨b0,b1,?_⟩
 obtain ⟨I,hI⟩:∃I:PSt->Prop,I=(fun p=>∃(ds:List Int) (left:Int) (v:Option D),p=[some (.d (.int n)),some (.d (.int b)),some (.own (ds.map D.int)),some (.d (.int left)),Option.map Sl.d v]/\0<=left/\left<=n/\left * 2 ^ ds.length<=n/\∀L,M.Fw b left L->M.Fw b n (ds++L)):=⟨_,rfl⟩
 refine while_q I (fun p=>match p[3]? with|some (some (Sl.d (D.int r)))=>r.toNat|_=>0) (by rw [hI];exact ⟨[],n,none,rfl,n0,Int.le_refl _,by simp,fun L h=>h⟩) ?_
 intro p hp
 rw [hI] at hp
 obtain ⟨ds,left,v,rfl,l0,l1,l2,l3⟩:=hp
 simp only [Q,S_at_most]
 refine ite2 (fun c=>?_) (fun c=>?_)
 ·have len:ds.length<4000:=by
   have h1:=Int.mul_le_mul_of_nonneg_right (show (1:Int)<=left by omega) (show (0:Int)<=2 ^ ds.length by have:=M.pow_pos' (show (0:Int)<2 by decide) ds.length;omega)
   have h2:(2:Int) ^ ds.length<2 ^ 4000:=by rw [<-M.big_def];omega
   by_cases z:ds.length<4000
   ·exact z
   ·have:=M.pow_le (b:=2) (by decide) (show 4000<=ds.length by omega)
    exact absurd h2 (Int.not_lt.mpr this)
  refine ⟨l0,by omega,b0,b1,fun m hm=>?_⟩
  have m1:=hm.one b0 (show 1<=left by omega)
  have m2:=hm.le
  have m3:=hm.half b0 (show 1<=left by omega)
  refine ⟨by rw [List.length_map];omega,?_,by omega⟩
  rw [hI]
  refine ⟨ds++[m],left - m,some (.int m),by rw [List.map_append];rfl,by omega,by omega,?_,fun L hL=>?_⟩
  ·rw [List.length_append,List.length_singleton,Int.pow_succ,Int.mul_comm (2 ^ ds.length) 2,<-Int.mul_assoc]
   have:=Int.mul_le_mul_of_nonneg_right (show (left - m) * 2<=left by omega) (show (0:Int)<=2 ^ ds.length by have:=M.pow_pos' (show (0:Int)<2 by decide) ds.length;omega)
   omega
  ·rw [List.append_assoc]
   exact l3 _ (.cons (by omega) hm hL)
 ·have e:left=0:=by omega
  subst e
  have:=l3 [] .nil
  rw [List.append_nil] at this
  exact q _ this
end
abbrev s_law:Stmt:=top 38
theorem sc_law:FnScope ["script","k","cell","hand","base","bound","number","some"] ["script"] (defScope s_law):=⟨rfl,rfl,rfl,by decide +kernel,rfl,by decide +kernel,by decide +kernel⟩
section
variable {P:Program} {w:World} {K:PySem.W.Frag} {mg:Str->Option Value} {base:Heap}
theorem few_len {b n:Int} {L:List Int} (b0:2<=b) (n0:1<=n) (h:M.Fw b n L):decide (L.length=1)=M.mir b n:=by
 cases L with
 | nil=>have:=h.zero;omega
 | cons m L=>
  have o:=h.one b0 n0
  rw [Bool.eq_iff_iff,decide_eq_true_eq,<-o]
  simp
theorem few_tw {b n:Int} {L:List Int} (b0:2<=b) (h:M.Fw b n L) (e:L.length=2):(M.tw b n).length≠0:=by
 match L,e with
 | [m,r],_=>
  have:=(M.few_two b0 h).1
  intro z
  rw [List.length_eq_zero_iff.mp z] at this
  cases this
theorem sum_tw (b:Int):∀k:Nat,((List.range k).map fun (i:Nat)=>((M.tw b (i:Int)).length:Int)).sum=M.twsum b k
 | 0=>rfl
 | k+1=>by
  have:=sum_tw b k
  rw [List.range_succ,List.map_append,List.sum_append,this]
  simp [M.twsum]
theorem ok_law (T:Txt mg) (Df:DefAt K mg "law" s_law ["script"]) (D_law_cells:A_law_cells K mg) (D_law_hand:A_law_hand K mg) (D_law_draw:A_law_draw K mg) (D_law_base:A_law_base K mg) (D_is_whole:A_is_whole K mg) (D_check_base:A_check_base K mg) (D_from_front:A_from_front K mg) (D_power:A_power K mg) (D_many_to_length:A_many_to_length K mg) (D_least_front:A_least_front K mg) (D_mirrored_at:A_mirrored_at K mg) (D_figures:A_figures K mg) (D_is_mirrored:A_is_mirrored K mg) (D_front_of:A_front_of K mg) (D_place_of:A_place_of K mg) (D_folded:A_folded K mg) (D_at_most:A_at_most K mg) (D_many_to:A_many_to K mg) (D_law_pairs:A_law_pairs K mg) (D_mirrored_to:A_mirrored_to K mg) (D_by_two:A_by_two K mg) (D_law_places_right:A_law_places_right K mg) (D_a_few:A_a_few K mg) (D_many_by_two:A_many_by_two K mg):FnOk P w K mg base CX0 9 Df.f Df.fd ["script"] (spOf K S_law):=by
 have G_law_cells:=ok_law_cells (P:=P) (w:=w) (base:=base) T D_law_cells
 have G_law_hand:=ok_law_hand (P:=P) (w:=w) (base:=base) T D_law_hand
 have G_law_base:=ok_law_base (P:=P) (w:=w) (base:=base) T D_law_base D_law_draw
 have G_law_draw:=ok_law_draw (P:=P) (w:=w) (base:=base) T D_law_draw
 have G_law_pairs:=ok_law_pairs (P:=P) (w:=w) (base:=base) T D_law_pairs D_is_whole D_check_base D_from_front D_power D_many_to_length D_least_front D_mirrored_at D_figures D_is_mirrored D_front_of D_place_of D_folded D_at_most D_many_to
 have G_law_places_right:=ok_law_places_right (P:=P) (w:=w) (base:=base) T D_law_places_right D_is_whole D_check_base D_power D_least_front D_from_front D_figures D_mirrored_to D_is_mirrored D_by_two D_many_to_length D_mirrored_at D_front_of D_place_of D_folded D_at_most D_many_to D_law_pairs
 have G_a_few:=ok_a_few (P:=P) (w:=w) (base:=base) T D_a_few D_is_whole D_check_base D_power D_front_of D_figures D_from_front D_folded D_least_front D_at_most
 have G_is_mirrored:=ok_is_mirrored (P:=P) (w:=w) (base:=base) T D_is_mirrored D_is_whole D_check_base D_figures
 have G_many_by_two:=ok_many_by_two (P:=P) (w:=w) (base:=base) T D_many_by_two D_is_whole D_check_base D_power D_least_front D_from_front D_figures D_mirrored_to D_is_mirrored D_by_two
 refine Df.F.okP sc_law (fun as R h=>?_) (fun cdv A outer s H E C as R hK hr h=>?_)
 ·obtain ⟨_,rfl,_⟩:=h;rfl
 have hu:=hr.units
 obtain ⟨ns,rfl,hl,q⟩:=h
 refine ⟨_,(s_cons (s_for PassesOwn.never rfl (i_list hK (q_fz (n_call hK D_law_cells G_law_cells (hr.mono (by first|decide|omega)) (a_cons (q_var (pv 0)) (a_cons (q_c pe_int (fun _=>.int _)) a_nil))))) (g_tup (n:=2) hK rfl (gs_cons (g_name (i:=1) sc_law.nd rfl (by simp only [L2.QL])) (gs_cons (g_name (i:=2) sc_law.nd rfl (by simp only [L2.QL])) gs_nil))) (s_cons (s_setN (i:=3) sc_law.nd rfl (by simp only [L2.QL]) (n_call hK D_law_hand G_law_hand (hr.mono (by first|decide|omega)) (a_cons (q_var (pv 2)) (a_cons (q_var (pv 1)) a_nil))))
    (s_cons (s_set (i:=4) sc_law.nd rfl (by simp only [L2.QL]) (q_fz (n_call hK D_law_base G_law_base (hr.mono (by first|decide|omega)) (a_cons (q_var (pv 3)) a_nil))))
    (s_cons (s_set (i:=5) sc_law.nd rfl (by simp only [L2.QL]) (q_fz (n_call hK D_law_draw G_law_draw (hr.mono (by first|decide|omega)) (a_cons (q_var (pv 3)) (a_cons (q_ix hK (q_fz (n_lst (a_cons (q_c pe_int (fun _=>.int _)) (a_cons (q_c pe_int (fun _=>.int _)) a_nil)))) (q_fz (n_call hK D_law_draw G_law_draw (hr.mono (by first|decide|omega)) (a_cons (q_var (pv 3)) (a_cons (q_c pe_int (fun _=>.int _)) a_nil)))) (fun _ _=>rfl)) a_nil)))))
    (s_cons (s_if (t_ne hK hu (cb_sum hK rfl rfl T.z_sum (a_cons (q_fz (n_comp (N:=["number","script","k","cell","hand","base","bound","number'","some"]) (k:=1) (CompScope.of (show CompSc (defScope s_law) ["script","k","cell","hand","base","bound","number","some"] _ ["number","script","k","cell","hand","base","bound","number'","some"] 1 from ⟨by rfl,by decide +kernel,by decide +kernel,by rfl,by decide +kernel,by decide +kernel,by decide +kernel,by decide +kernel⟩)) rfl (i_range1 rfl T.z_range (a_cons (q_add (q_var (pv 5)) (q_c pe_int (fun _=>.int _))) a_nil)) (fun Z s H fp=>(gk_name (i:=0) (by decide) (show List.Nodup (["number","script","k","cell","hand","base","bound","number'","some"]:List Str) by decide +kernel) rfl (Or.inl rfl) (Or.inr rfl))) (fun Z s H fp=>ts_nil) (fun Z s H fp=>(q_fz (n_call hK D_many_by_two G_many_by_two (hr.mono (by first|decide|omega)) (a_cons (q_var (pv 0)) (a_cons (q_var (pv 5)) a_nil))))))) a_nil)) (q_fz (n_call hK D_law_pairs G_law_pairs (hr.mono (by first|decide|omega)) (a_cons (q_var (pv 5)) (a_cons (q_var (pv 4)) a_nil))))) (s_one (s_ret (n_val (q_c pe_bl (fun _=>.bl _))))) s_nil)
    (s_cons (s_if (t_not (t_val (q_fz (n_call hK D_law_places_right G_law_places_right (hr.mono (by first|decide|omega)) (a_cons (q_var (pv 5)) (a_cons (q_var (pv 4)) a_nil)))))) (s_one (s_ret (n_val (q_c pe_bl (fun _=>.bl _))))) s_nil)
    (s_one (s_for PassesOwn.never rfl (i_range2 rfl T.z_range (a_cons (q_c pe_int (fun _=>.int _)) (a_cons (q_add (q_var (pv 5)) (q_c pe_int (fun _=>.int _))) a_nil))) (g_name (i:=6) sc_law.nd rfl (by simp only [L2.QL])) (s_cons (s_set (i:=7) sc_law.nd rfl (by simp only [L2.QL]) (q_fz (n_call hK D_a_few G_a_few (hr.mono (by first|decide|omega)) (a_cons (q_var (pv 6)) (a_cons (q_var (pv 4)) a_nil)))))
    (s_cons (s_if (t_ne hK hu (q_eq hK hu (cb_len hK rfl T.z_len (a_cons (q_var (pv 7)) a_nil)) (q_c pe_int (fun _=>.int _))) (q_fz (n_call hK D_is_mirrored G_is_mirrored (hr.mono (by first|decide|omega)) (a_cons (q_var (pv 6)) (a_cons (q_var (pv 4)) a_nil))))) (s_one (s_ret (n_val (q_c pe_bl (fun _=>.bl _))))) s_nil)
    (s_one (s_if (PW.pt (w_and (t_eq hK hu (cb_len hK rfl T.z_len (a_cons (q_var (pv 7)) a_nil)) (q_c pe_int (fun _=>.int _))) (w_and1 (t_eq hK hu (q_fz (n_call hK D_many_by_two G_many_by_two (hr.mono (by first|decide|omega)) (a_cons (q_var (pv 6)) (a_cons (q_var (pv 4)) a_nil)))) (q_c pe_int (fun _=>.int _)))))) (s_one (s_ret (n_val (q_c pe_bl (fun _=>.bl _))))) s_nil))))))))))))
    (s_one (s_ret (n_val (q_c pe_bl (fun _=>.bl _)))))),?_⟩
 obtain ⟨I,hI⟩:∃I:Nat->PSt->Prop,I=(fun i p=>∃w1 w2 w3 w4 w5 w6 w7,p=[some (.d (.scr ns)),Any w1,Any w2,Any w3,Any w4,Any w5,Any w6,Any w7]):=⟨_,rfl⟩
 refine seq_goP (for_i ?_)
 simp only [R,S_law_cells]
 refine ⟨hl,fun cs hc=>?_⟩
 refine ⟨I,by rw [hI];exact ⟨none,none,none,none,none,none,none,rfl⟩,?_,?_⟩
 ·intro i p hi hp
  rw [hI] at hp
  obtain ⟨w1,w2,w3,w4,w5,w6,w7,rfl⟩:=hp
  obtain ⟨c,ec⟩:=pair_at hi
  rw [ec]
  simp only [R]
  refine seq_goK fun kk hkk=>?_
  simp only [R,S_law_hand]
  intro h1 hh1
  refine hkk _ ?_
  clear hkk kk
  refine seq_goK fun kk hkk=>?_
  simp only [R,S_law_base]
  refine ⟨hh1,fun b h2 b0 b1 hh2=>hkk _ ?_⟩
  clear hkk kk
  refine seq_cutP (fun p=>∃(h:List D) (N:Nat),N<=300/\p=[some (.d (.scr ns)),some (.d (.int i)),some (.d (.int c)),some (.own h),some (.d (.int b)),some (.d (.int (N:Int))),Any w6,Any w7]) (fun k hk=>?_) ?_
  ·simp only [Q,S_law_draw]
   refine ⟨hh2,fun g h3 g0 g1 hh3=>?_⟩
   obtain ⟨mo,emo,m1,m2⟩:∃mo:Int,atI [D.int 40,D.int 300] g=some (.int mo)/\1<=mo/\mo<=300:=by
    have:g=0\/g=1:=by omega
    rcases this with rfl|rfl
    ·exact ⟨40,rfl,by decide,by decide⟩
    ·exact ⟨300,rfl,by decide,by decide⟩
   refine ⟨_,emo,?_⟩
   first
    | refine ⟨hh3,by omega,by omega,fun g4 h4 g40 g41 hh4=>?_⟩
    | refine ⟨_,rfl,hh3,by omega,by omega,fun g4 h4 g40 g41 hh4=>?_⟩
   obtain ⟨N,rfl⟩:=Int.eq_ofNat_of_zero_le g40
   exact hk _ ⟨h4,N,by omega,rfl⟩
  rintro p ⟨h4,N,N1,rfl⟩
  have e6:∀m:Int,m<=300->m<=1000000:=fun m hm=>by omega
  have bg:∀m:Int,m<=300->m<M.Big:=fun m hm=>M.big_40 (Int.le_trans hm (by decide))
  refine seq_goK fun kk hkk=>?_
  simp only [R]
  refine comp_map (n:=N+1) (item:=fun i=>.int i) (p1:=_) (fun Q h=>by
   simp only [Q]
   rw [show ((N:Int)+1).toNat=N+1 by omega]
   exact ⟨by omega,by omega,h⟩) (by omega) (fun j=>.int ((M.tw b (j:Int)).length:Int)) (fun j R hj h=>?_) ?_
  ·simp only [Q,S_many_by_two]
   exact ⟨by omega,by omega,b0,b1,h⟩
  have em:(List.range (N+1)).map (fun (j:Nat)=>D.int ((M.tw b (j:Int)).length:Int))=((List.range (N+1)).map fun (j:Nat)=>((M.tw b (j:Int)).length:Int)).map D.int:=by rw [List.map_map];rfl
  rw [em]
  simp only [R,S_law_pairs]
  refine ⟨_,rfl,N,rfl,N1,b0,b1,?_⟩
  rw [sum_tw,if_pos rfl]
  refine hkk _ ?_
  clear hkk kk
  refine seq_goK fun kk hkk=>?_
  simp only [R,S_law_places_right]
  refine ⟨N,rfl,N1,b0,b1,hkk _ ?_⟩
  clear hkk kk
  obtain ⟨J,hJ⟩:∃J:Nat->PSt->Prop,J=(fun j p=>∃w6 w7,p=[some (.d (.scr ns)),some (.d (.int i)),some (.d (.int c)),some (.own h4),some (.d (.int b)),some (.d (.int (N:Int))),Any w6,Any w7]):=⟨_,rfl⟩
  refine for_q (n:=N) (item:=fun j=>.int (1+(j:Int))) (p1:=_) (fun Q h=>by
   simp only [Q]
   rw [show ((N:Int)+1 - 1).toNat=N by omega]
   exact ⟨by omega,by omega,h⟩) J (by rw [hJ];exact ⟨w6,w7,rfl⟩) ?_ ?_
  ·intro j p hj hp
   rw [hJ] at hp
   obtain ⟨w6,w7,rfl⟩:=hp
   have jm:1+(j:Int)<=300:=by omega
   simp only [R]
   refine seq_goK fun kk hkk=>?_
   simp only [R,S_a_few]
   refine ⟨by omega,bg _ jm,b0,b1,fun L fw=>hkk _ ?_⟩
   clear hkk kk
   have fl:=few_len b0 (by omega) fw
   have ft:=few_tw b0 fw
   have fin:J (j+1) [some (.d (.scr ns)),some (.d (.int i)),some (.d (.int c)),some (.own h4),some (.d (.int b)),some (.d (.int (N:Int))),some (.d (.int (1+(j:Int)))),some (.d (.lst (L.map D.int)))]:=by
    rw [hJ]
    exact ⟨some (.inl (.int (1+(j:Int)))),some (.inl (.lst (L.map D.int))),rfl⟩
   refine seq_goK fun kk hkk=>?_
   simp only [R,S_is_mirrored,List.length_map]
   have e1:decide ((L.length:Int)=1)=decide (L.length=1):=by
    rw [Bool.eq_iff_iff,decide_eq_true_eq,decide_eq_true_eq];omega
   refine ⟨by omega,bg _ jm,b0,b1,?_⟩
   rw [if_pos (by rw [e1];exact fl)]
   refine hkk _ ?_
   clear hkk kk
   simp only [Q,S_many_by_two,List.length_map]
   refine ite2 (fun c2=>?_) (fun _=>fin)
   have fz:=ft (by omega)
   refine ⟨by omega,by omega,b0,b1,?_⟩
   first
    | exact ite2 (fun z=>absurd z (by omega)) (fun _=>fin)
    | (rw [if_neg (by omega)];exact fin)
  ·intro p hp
   rw [hJ] at hp
   obtain ⟨w6,w7,rfl⟩:=hp
   show I (i+1) _
   rw [hI]
   exact ⟨some (.inl (.int i)),some (.inl (.int c)),some (.inr h4),some (.inl (.int b)),some (.inl (.int (N:Int))),w6,w7,rfl⟩
 ·intro p hp
  rw [hI] at hp
  obtain ⟨w1,w2,w3,w4,w5,w6,w7,rfl⟩:=hp
  simp only [Q]
  exact q
end
theorem sp_start {K:PySem.W.Frag} {H:Hp} {a:Addr} {ns:List Int} {E:XK} (hl:ns.length<=63) (hS:SqL K H a (ns.map V.int)):spOf K S_law [.ref a] H (fun v _=>v=.bl true) E:=
 ⟨[.d (.scr ns)],H,fun r _=>r=.rd (.bl true),Same.refl _,args_scr hS,⟨ns,rfl,hl,rfl⟩,fun r as' v F' H' po hr=>by
  subst hr
  have h:=po.res
  cases h
  rfl⟩
@[elab_as_elim] theorem len1 {α:Type} {C:List α->Prop} (us:List α) (hl:us.length=1) (h:∀x0:α,C [x0]):C us:=match us,hl,h with | [x0],_,h=>h x0
@[elab_as_elim] theorem len2 {α:Type} {C:List α->Prop} (us:List α) (hl:us.length=2) (h:∀x0 x1:α,C [x0,x1]):C us:=match us,hl,h with | [x0,x1],_,h=>h x0 x1
@[elab_as_elim] theorem len3 {α:Type} {C:List α->Prop} (us:List α) (hl:us.length=3) (h:∀x0 x1 x2:α,C [x0,x1,x2]):C us:=match us,hl,h with | [x0,x1,x2],_,h=>h x0 x1 x2
theorem all_mk {l:PySem.W.OpenLaw} {w:World} {K:PySem.W.Frag} {h:Heap} {mg:Str->Option Value} {fa f1 f2 f3 f4 f5 f6 f7 f8 f9 f10 f11 f12 f13 f14 f15 f16 f17 f18 f19 f20 f21 f22 f23 f24 f25:Addr} (X:K.In h) (G:h.Ns mainGlobals mg) (hfa:mg "law"=some (.ref fa))
  {od1 an1:Option Addr} {sl1:Array (Option Value)} {oc1 kV1 dc1 pm1 cd1 ct1:Value} {od2 an2:Option Addr} {sl2:Array (Option Value)} {oc2 kV2 dc2 pm2 cd2 ct2:Value} {od3 an3:Option Addr} {sl3:Array (Option Value)} {oc3 kV3 dc3 pm3 cd3 ct3:Value} {od4 an4:Option Addr} {sl4:Array (Option Value)} {oc4 kV4 dc4 pm4 cd4 ct4:Value} {od5 an5:Option Addr} {sl5:Array (Option Value)} {oc5 kV5 dc5 pm5 cd5 ct5:Value} {od6 an6:Option Addr} {sl6:Array (Option Value)} {oc6 kV6 dc6 pm6 cd6 ct6:Value} {od7 an7:Option Addr} {sl7:Array (Option Value)} {oc7 kV7 dc7 pm7 cd7 ct7:Value} {od8 an8:Option Addr} {sl8:Array (Option Value)} {oc8 kV8 dc8 pm8 cd8 ct8:Value} {od9 an9:Option Addr} {sl9:Array (Option Value)} {oc9 kV9 dc9 pm9 cd9 ct9:Value} {od10 an10:Option Addr} {sl10:Array (Option Value)} {oc10 kV10 dc10 pm10 cd10 ct10:Value} {od11 an11:Option Addr} {sl11:Array (Option Value)} {oc11 kV11 dc11 pm11 cd11 ct11:Value} {od12 an12:Option Addr} {sl12:Array (Option Value)} {oc12 kV12 dc12 pm12 cd12 ct12:Value} {od13 an13:Option Addr} {sl13:Array (Option Value)} {oc13 kV13 dc13 pm13 cd13 ct13:Value} {od14 an14:Option Addr} {sl14:Array (Option Value)} {oc14 kV14 dc14 pm14 cd14 ct14:Value} {od15 an15:Option Addr} {sl15:Array (Option Value)} {oc15 kV15 dc15 pm15 cd15 ct15:Value} {od16 an16:Option Addr} {sl16:Array (Option Value)} {oc16 kV16 dc16 pm16 cd16 ct16:Value} {od17 an17:Option Addr} {sl17:Array (Option Value)} {oc17 kV17 dc17 pm17 cd17 ct17:Value} {od18 an18:Option Addr} {sl18:Array (Option Value)} {oc18 kV18 dc18 pm18 cd18 ct18:Value} {od19 an19:Option Addr} {sl19:Array (Option Value)} {oc19 kV19 dc19 pm19 cd19 ct19:Value} {od20 an20:Option Addr} {sl20:Array (Option Value)} {oc20 kV20 dc20 pm20 cd20 ct20:Value} {od21 an21:Option Addr} {sl21:Array (Option Value)} {oc21 kV21 dc21 pm21 cd21 ct21:Value} {od22 an22:Option Addr} {sl22:Array (Option Value)} {oc22 kV22 dc22 pm22 cd22 ct22:Value} {od23 an23:Option Addr} {sl23:Array (Option Value)} {oc23 kV23 dc23 pm23 cd23 ct23:Value} {od24 an24:Option Addr} {sl24:Array (Option Value)} {oc24 kV24 dc24 pm24 cd24 ct24:Value} {od25 an25:Option Addr} {sl25:Array (Option Value)} {oc25 kV25 dc25 pm25 cd25 ct25:Value} {t_LEAST_BASE:Tok} {t_GREATEST_BASE:Tok}
  (a1:PySem.W.nsIn K mainGlobals "_law_cells"=some (some (.ref f1))) (l1:K.lookup f1=some ⟨oc1,od1,.func (PySem.W.fnOf "_law_cells" "_law_cells" (defArgs s_law_cells) (defBody s_law_cells) (defScope s_law_cells) .none kV1 dc1 pm1 an1 cd1 ct1),sl1⟩) (c1:PySem.W.codeIn K cd1 "_law_cells"=true) (k1:PySem.W.keepIn K (.ref f1)=true)
  (a2:PySem.W.nsIn K mainGlobals "_law_hand"=some (some (.ref f2))) (l2:K.lookup f2=some ⟨oc2,od2,.func (PySem.W.fnOf "_law_hand" "_law_hand" (defArgs s_law_hand) (defBody s_law_hand) (defScope s_law_hand) .none kV2 dc2 pm2 an2 cd2 ct2),sl2⟩) (c2:PySem.W.codeIn K cd2 "_law_hand"=true) (k2:PySem.W.keepIn K (.ref f2)=true)
  (a3:PySem.W.nsIn K mainGlobals "_law_draw"=some (some (.ref f3))) (l3:K.lookup f3=some ⟨oc3,od3,.func (PySem.W.fnOf "_law_draw" "_law_draw" (defArgs s_law_draw) (defBody s_law_draw) (defScope s_law_draw) .none kV3 dc3 pm3 an3 cd3 ct3),sl3⟩) (c3:PySem.W.codeIn K cd3 "_law_draw"=true) (k3:PySem.W.keepIn K (.ref f3)=true)
  (a4:PySem.W.nsIn K mainGlobals "_law_base"=some (some (.ref f4))) (l4:K.lookup f4=some ⟨oc4,od4,.func (PySem.W.fnOf "_law_base" "_law_base" (defArgs s_law_base) (defBody s_law_base) (defScope s_law_base) .none kV4 dc4 pm4 an4 cd4 ct4),sl4⟩) (c4:PySem.W.codeIn K cd4 "_law_base"=true) (k4:PySem.W.keepIn K (.ref f4)=true)
  (a5:PySem.W.nsIn K mainGlobals "is_whole"=some (some (.ref f5))) (l5:K.lookup f5=some ⟨oc5,od5,.func (PySem.W.fnOf "is_whole" "is_whole" (defArgs s_is_whole) (defBody s_is_whole) (defScope s_is_whole) .none kV5 dc5 pm5 an5 cd5 ct5),sl5⟩) (c5:PySem.W.codeIn K cd5 "is_whole"=true) (k5:PySem.W.keepIn K (.ref f5)=true)
  (a6:PySem.W.nsIn K mainGlobals "check_base"=some (some (.ref f6))) (l6:K.lookup f6=some ⟨oc6,od6,.func (PySem.W.fnOf "check_base" "check_base" (defArgs s_check_base) (defBody s_check_base) (defScope s_check_base) .none kV6 dc6 pm6 an6 cd6 ct6),sl6⟩) (c6:PySem.W.codeIn K cd6 "check_base"=true) (k6:PySem.W.keepIn K (.ref f6)=true)
  (a7:PySem.W.nsIn K mainGlobals "from_front"=some (some (.ref f7))) (l7:K.lookup f7=some ⟨oc7,od7,.func (PySem.W.fnOf "from_front" "from_front" (defArgs s_from_front) (defBody s_from_front) (defScope s_from_front) .none kV7 dc7 pm7 an7 cd7 ct7),sl7⟩) (c7:PySem.W.codeIn K cd7 "from_front"=true) (k7:PySem.W.keepIn K (.ref f7)=true)
  (a8:PySem.W.nsIn K mainGlobals "power"=some (some (.ref f8))) (l8:K.lookup f8=some ⟨oc8,od8,.func (PySem.W.fnOf "power" "power" (defArgs s_power) (defBody s_power) (defScope s_power) .none kV8 dc8 pm8 an8 cd8 ct8),sl8⟩) (c8:PySem.W.codeIn K cd8 "power"=true) (k8:PySem.W.keepIn K (.ref f8)=true)
  (a9:PySem.W.nsIn K mainGlobals "many_to_length"=some (some (.ref f9))) (l9:K.lookup f9=some ⟨oc9,od9,.func (PySem.W.fnOf "many_to_length" "many_to_length" (defArgs s_many_to_length) (defBody s_many_to_length) (defScope s_many_to_length) .none kV9 dc9 pm9 an9 cd9 ct9),sl9⟩) (c9:PySem.W.codeIn K cd9 "many_to_length"=true) (k9:PySem.W.keepIn K (.ref f9)=true)
  (a10:PySem.W.nsIn K mainGlobals "least_front"=some (some (.ref f10))) (l10:K.lookup f10=some ⟨oc10,od10,.func (PySem.W.fnOf "least_front" "least_front" (defArgs s_least_front) (defBody s_least_front) (defScope s_least_front) .none kV10 dc10 pm10 an10 cd10 ct10),sl10⟩) (c10:PySem.W.codeIn K cd10 "least_front"=true) (k10:PySem.W.keepIn K (.ref f10)=true)
  (a11:PySem.W.nsIn K mainGlobals "mirrored_at"=some (some (.ref f11))) (l11:K.lookup f11=some ⟨oc11,od11,.func (PySem.W.fnOf "mirrored_at" "mirrored_at" (defArgs s_mirrored_at) (defBody s_mirrored_at) (defScope s_mirrored_at) .none kV11 dc11 pm11 an11 cd11 ct11),sl11⟩) (c11:PySem.W.codeIn K cd11 "mirrored_at"=true) (k11:PySem.W.keepIn K (.ref f11)=true)
  (a12:PySem.W.nsIn K mainGlobals "figures"=some (some (.ref f12))) (l12:K.lookup f12=some ⟨oc12,od12,.func (PySem.W.fnOf "figures" "figures" (defArgs s_figures) (defBody s_figures) (defScope s_figures) .none kV12 dc12 pm12 an12 cd12 ct12),sl12⟩) (c12:PySem.W.codeIn K cd12 "figures"=true) (k12:PySem.W.keepIn K (.ref f12)=true)
  (a13:PySem.W.nsIn K mainGlobals "is_mirrored"=some (some (.ref f13))) (l13:K.lookup f13=some ⟨oc13,od13,.func (PySem.W.fnOf "is_mirrored" "is_mirrored" (defArgs s_is_mirrored) (defBody s_is_mirrored) (defScope s_is_mirrored) .none kV13 dc13 pm13 an13 cd13 ct13),sl13⟩) (c13:PySem.W.codeIn K cd13 "is_mirrored"=true) (k13:PySem.W.keepIn K (.ref f13)=true)
  (a14:PySem.W.nsIn K mainGlobals "front_of"=some (some (.ref f14))) (l14:K.lookup f14=some ⟨oc14,od14,.func (PySem.W.fnOf "front_of" "front_of" (defArgs s_front_of) (defBody s_front_of) (defScope s_front_of) .none kV14 dc14 pm14 an14 cd14 ct14),sl14⟩) (c14:PySem.W.codeIn K cd14 "front_of"=true) (k14:PySem.W.keepIn K (.ref f14)=true)
  (a15:PySem.W.nsIn K mainGlobals "place_of"=some (some (.ref f15))) (l15:K.lookup f15=some ⟨oc15,od15,.func (PySem.W.fnOf "place_of" "place_of" (defArgs s_place_of) (defBody s_place_of) (defScope s_place_of) .none kV15 dc15 pm15 an15 cd15 ct15),sl15⟩) (c15:PySem.W.codeIn K cd15 "place_of"=true) (k15:PySem.W.keepIn K (.ref f15)=true)
  (a16:PySem.W.nsIn K mainGlobals "folded"=some (some (.ref f16))) (l16:K.lookup f16=some ⟨oc16,od16,.func (PySem.W.fnOf "folded" "folded" (defArgs s_folded) (defBody s_folded) (defScope s_folded) .none kV16 dc16 pm16 an16 cd16 ct16),sl16⟩) (c16:PySem.W.codeIn K cd16 "folded"=true) (k16:PySem.W.keepIn K (.ref f16)=true)
  (a17:PySem.W.nsIn K mainGlobals "at_most"=some (some (.ref f17))) (l17:K.lookup f17=some ⟨oc17,od17,.func (PySem.W.fnOf "at_most" "at_most" (defArgs s_at_most) (defBody s_at_most) (defScope s_at_most) .none kV17 dc17 pm17 an17 cd17 ct17),sl17⟩) (c17:PySem.W.codeIn K cd17 "at_most"=true) (k17:PySem.W.keepIn K (.ref f17)=true)
  (a18:PySem.W.nsIn K mainGlobals "many_to"=some (some (.ref f18))) (l18:K.lookup f18=some ⟨oc18,od18,.func (PySem.W.fnOf "many_to" "many_to" (defArgs s_many_to) (defBody s_many_to) (defScope s_many_to) .none kV18 dc18 pm18 an18 cd18 ct18),sl18⟩) (c18:PySem.W.codeIn K cd18 "many_to"=true) (k18:PySem.W.keepIn K (.ref f18)=true)
  (a19:PySem.W.nsIn K mainGlobals "_law_pairs"=some (some (.ref f19))) (l19:K.lookup f19=some ⟨oc19,od19,.func (PySem.W.fnOf "_law_pairs" "_law_pairs" (defArgs s_law_pairs) (defBody s_law_pairs) (defScope s_law_pairs) .none kV19 dc19 pm19 an19 cd19 ct19),sl19⟩) (c19:PySem.W.codeIn K cd19 "_law_pairs"=true) (k19:PySem.W.keepIn K (.ref f19)=true)
  (a20:PySem.W.nsIn K mainGlobals "mirrored_to"=some (some (.ref f20))) (l20:K.lookup f20=some ⟨oc20,od20,.func (PySem.W.fnOf "mirrored_to" "mirrored_to" (defArgs s_mirrored_to) (defBody s_mirrored_to) (defScope s_mirrored_to) .none kV20 dc20 pm20 an20 cd20 ct20),sl20⟩) (c20:PySem.W.codeIn K cd20 "mirrored_to"=true) (k20:PySem.W.keepIn K (.ref f20)=true)
  (a21:PySem.W.nsIn K mainGlobals "by_two"=some (some (.ref f21))) (l21:K.lookup f21=some ⟨oc21,od21,.func (PySem.W.fnOf "by_two" "by_two" (defArgs s_by_two) (defBody s_by_two) (defScope s_by_two) .none kV21 dc21 pm21 an21 cd21 ct21),sl21⟩) (c21:PySem.W.codeIn K cd21 "by_two"=true) (k21:PySem.W.keepIn K (.ref f21)=true)
  (a22:PySem.W.nsIn K mainGlobals "_law_places_right"=some (some (.ref f22))) (l22:K.lookup f22=some ⟨oc22,od22,.func (PySem.W.fnOf "_law_places_right" "_law_places_right" (defArgs s_law_places_right) (defBody s_law_places_right) (defScope s_law_places_right) .none kV22 dc22 pm22 an22 cd22 ct22),sl22⟩) (c22:PySem.W.codeIn K cd22 "_law_places_right"=true) (k22:PySem.W.keepIn K (.ref f22)=true)
  (a23:PySem.W.nsIn K mainGlobals "a_few"=some (some (.ref f23))) (l23:K.lookup f23=some ⟨oc23,od23,.func (PySem.W.fnOf "a_few" "a_few" (defArgs s_a_few) (defBody s_a_few) (defScope s_a_few) .none kV23 dc23 pm23 an23 cd23 ct23),sl23⟩) (c23:PySem.W.codeIn K cd23 "a_few"=true) (k23:PySem.W.keepIn K (.ref f23)=true)
  (a24:PySem.W.nsIn K mainGlobals "many_by_two"=some (some (.ref f24))) (l24:K.lookup f24=some ⟨oc24,od24,.func (PySem.W.fnOf "many_by_two" "many_by_two" (defArgs s_many_by_two) (defBody s_many_by_two) (defScope s_many_by_two) .none kV24 dc24 pm24 an24 cd24 ct24),sl24⟩) (c24:PySem.W.codeIn K cd24 "many_by_two"=true) (k24:PySem.W.keepIn K (.ref f24)=true)
  (a25:PySem.W.nsIn K mainGlobals "law"=some (some (.ref f25))) (l25:K.lookup f25=some ⟨oc25,od25,.func (PySem.W.fnOf "law" "law" (defArgs s_law) (defBody s_law) (defScope s_law) .none kV25 dc25 pm25 an25 cd25 ct25),sl25⟩) (c25:PySem.W.codeIn K cd25 "law"=true) (k25:PySem.W.keepIn K (.ref f25)=true)
  (z_isinstance:PySem.W.nsIn K mainGlobals "isinstance"=some none)
  (z_int:PySem.W.nsIn K mainGlobals "int"=some none)
  (z_bool:PySem.W.nsIn K mainGlobals "bool"=some none)
  (z_list:PySem.W.nsIn K mainGlobals "list"=some none)
  (z_len:PySem.W.nsIn K mainGlobals "len"=some none)
  (z_sum:PySem.W.nsIn K mainGlobals "sum"=some none)
  (z_range:PySem.W.nsIn K mainGlobals "range"=some none)
  (z_enumerate:PySem.W.nsIn K mainGlobals "enumerate"=some none)
  (z_min:PySem.W.nsIn K mainGlobals "min"=some none)
  (z_max:PySem.W.nsIn K mainGlobals "max"=some none)
  (z_divmod:PySem.W.nsIn K mainGlobals "divmod"=some none)
  (y_LEAST_BASE:PySem.W.nsIn K mainGlobals "LEAST_BASE"=some (some (.int 2 t_LEAST_BASE)))
  (y_GREATEST_BASE:PySem.W.nsIn K mainGlobals "GREATEST_BASE"=some (some (.int 36 t_GREATEST_BASE)))
  : ∃fd:FuncData,(∀(s:Shared) (v:Value),BindsTo s fd ⟨[v],[]⟩ [("script",v)])/\∀base:Heap,K.In base->base.Ns mainGlobals mg->FnOk l.prog w K mg base CX0 9 fa fd ["script"] (spOf K S_law):=by
 have e:=hfa.symm.trans (PySem.W.mg_of X G a25)
 cases e
 have T:Txt mg:=⟨PySem.W.mg_none_of X G z_isinstance,PySem.W.mg_none_of X G z_int,PySem.W.mg_none_of X G z_bool,PySem.W.mg_none_of X G z_list,PySem.W.mg_none_of X G z_len,PySem.W.mg_none_of X G z_sum,PySem.W.mg_none_of X G z_range,PySem.W.mg_none_of X G z_enumerate,PySem.W.mg_none_of X G z_min,PySem.W.mg_none_of X G z_max,PySem.W.mg_none_of X G z_divmod,⟨t_LEAST_BASE,PySem.W.mg_of X G y_LEAST_BASE⟩,⟨t_GREATEST_BASE,PySem.W.mg_of X G y_GREATEST_BASE⟩⟩
 let D1:A_law_cells K mg:=⟨f1,_,fun_mk (st:=s_law_cells) l1 c1 k1,PySem.W.mg_of X G a1,(fun_mk (st:=s_law_cells) l1 c1 k1).binds fun _ _ _ _ _ _ us hl=>len2 us hl fun _ _=>rfl⟩
 let D2:A_law_hand K mg:=⟨f2,_,fun_mk (st:=s_law_hand) l2 c2 k2,PySem.W.mg_of X G a2,(fun_mk (st:=s_law_hand) l2 c2 k2).binds fun _ _ _ _ _ _ us hl=>len2 us hl fun _ _=>rfl⟩
 let D3:A_law_draw K mg:=⟨f3,_,fun_mk (st:=s_law_draw) l3 c3 k3,PySem.W.mg_of X G a3,(fun_mk (st:=s_law_draw) l3 c3 k3).binds fun _ _ _ _ _ _ us hl=>len2 us hl fun _ _=>rfl⟩
 let D4:A_law_base K mg:=⟨f4,_,fun_mk (st:=s_law_base) l4 c4 k4,PySem.W.mg_of X G a4,(fun_mk (st:=s_law_base) l4 c4 k4).binds fun _ _ _ _ _ _ us hl=>len1 us hl fun _=>rfl⟩
 let D5:A_is_whole K mg:=⟨f5,_,fun_mk (st:=s_is_whole) l5 c5 k5,PySem.W.mg_of X G a5,(fun_mk (st:=s_is_whole) l5 c5 k5).binds fun _ _ _ _ _ _ us hl=>len1 us hl fun _=>rfl⟩
 let D6:A_check_base K mg:=⟨f6,_,fun_mk (st:=s_check_base) l6 c6 k6,PySem.W.mg_of X G a6,(fun_mk (st:=s_check_base) l6 c6 k6).binds fun _ _ _ _ _ _ us hl=>len1 us hl fun _=>rfl⟩
 let D7:A_from_front K mg:=⟨f7,_,fun_mk (st:=s_from_front) l7 c7 k7,PySem.W.mg_of X G a7,(fun_mk (st:=s_from_front) l7 c7 k7).binds fun _ _ _ _ _ _ us hl=>len3 us hl fun _ _ _=>rfl⟩
 let D8:A_power K mg:=⟨f8,_,fun_mk (st:=s_power) l8 c8 k8,PySem.W.mg_of X G a8,(fun_mk (st:=s_power) l8 c8 k8).binds fun _ _ _ _ _ _ us hl=>len2 us hl fun _ _=>rfl⟩
 let D9:A_many_to_length K mg:=⟨f9,_,fun_mk (st:=s_many_to_length) l9 c9 k9,PySem.W.mg_of X G a9,(fun_mk (st:=s_many_to_length) l9 c9 k9).binds fun _ _ _ _ _ _ us hl=>len2 us hl fun _ _=>rfl⟩
 let D10:A_least_front K mg:=⟨f10,_,fun_mk (st:=s_least_front) l10 c10 k10,PySem.W.mg_of X G a10,(fun_mk (st:=s_least_front) l10 c10 k10).binds fun _ _ _ _ _ _ us hl=>len2 us hl fun _ _=>rfl⟩
 let D11:A_mirrored_at K mg:=⟨f11,_,fun_mk (st:=s_mirrored_at) l11 c11 k11,PySem.W.mg_of X G a11,(fun_mk (st:=s_mirrored_at) l11 c11 k11).binds fun _ _ _ _ _ _ us hl=>len2 us hl fun _ _=>rfl⟩
 let D12:A_figures K mg:=⟨f12,_,fun_mk (st:=s_figures) l12 c12 k12,PySem.W.mg_of X G a12,(fun_mk (st:=s_figures) l12 c12 k12).binds fun _ _ _ _ _ _ us hl=>len2 us hl fun _ _=>rfl⟩
 let D13:A_is_mirrored K mg:=⟨f13,_,fun_mk (st:=s_is_mirrored) l13 c13 k13,PySem.W.mg_of X G a13,(fun_mk (st:=s_is_mirrored) l13 c13 k13).binds fun _ _ _ _ _ _ us hl=>len2 us hl fun _ _=>rfl⟩
 let D14:A_front_of K mg:=⟨f14,_,fun_mk (st:=s_front_of) l14 c14 k14,PySem.W.mg_of X G a14,(fun_mk (st:=s_front_of) l14 c14 k14).binds fun _ _ _ _ _ _ us hl=>len3 us hl fun _ _ _=>rfl⟩
 let D15:A_place_of K mg:=⟨f15,_,fun_mk (st:=s_place_of) l15 c15 k15,PySem.W.mg_of X G a15,(fun_mk (st:=s_place_of) l15 c15 k15).binds fun _ _ _ _ _ _ us hl=>len2 us hl fun _ _=>rfl⟩
 let D16:A_folded K mg:=⟨f16,_,fun_mk (st:=s_folded) l16 c16 k16,PySem.W.mg_of X G a16,(fun_mk (st:=s_folded) l16 c16 k16).binds fun _ _ _ _ _ _ us hl=>len2 us hl fun _ _=>rfl⟩
 let D17:A_at_most K mg:=⟨f17,_,fun_mk (st:=s_at_most) l17 c17 k17,PySem.W.mg_of X G a17,(fun_mk (st:=s_at_most) l17 c17 k17).binds fun _ _ _ _ _ _ us hl=>len2 us hl fun _ _=>rfl⟩
 let D18:A_many_to K mg:=⟨f18,_,fun_mk (st:=s_many_to) l18 c18 k18,PySem.W.mg_of X G a18,(fun_mk (st:=s_many_to) l18 c18 k18).binds fun _ _ _ _ _ _ us hl=>len2 us hl fun _ _=>rfl⟩
 let D19:A_law_pairs K mg:=⟨f19,_,fun_mk (st:=s_law_pairs) l19 c19 k19,PySem.W.mg_of X G a19,(fun_mk (st:=s_law_pairs) l19 c19 k19).binds fun _ _ _ _ _ _ us hl=>len2 us hl fun _ _=>rfl⟩
 let D20:A_mirrored_to K mg:=⟨f20,_,fun_mk (st:=s_mirrored_to) l20 c20 k20,PySem.W.mg_of X G a20,(fun_mk (st:=s_mirrored_to) l20 c20 k20).binds fun _ _ _ _ _ _ us hl=>len2 us hl fun _ _=>rfl⟩
 let D21:A_by_two K mg:=⟨f21,_,fun_mk (st:=s_by_two) l21 c21 k21,PySem.W.mg_of X G a21,(fun_mk (st:=s_by_two) l21 c21 k21).binds fun _ _ _ _ _ _ us hl=>len2 us hl fun _ _=>rfl⟩
 let D22:A_law_places_right K mg:=⟨f22,_,fun_mk (st:=s_law_places_right) l22 c22 k22,PySem.W.mg_of X G a22,(fun_mk (st:=s_law_places_right) l22 c22 k22).binds fun _ _ _ _ _ _ us hl=>len2 us hl fun _ _=>rfl⟩
 let D23:A_a_few K mg:=⟨f23,_,fun_mk (st:=s_a_few) l23 c23 k23,PySem.W.mg_of X G a23,(fun_mk (st:=s_a_few) l23 c23 k23).binds fun _ _ _ _ _ _ us hl=>len2 us hl fun _ _=>rfl⟩
 let D24:A_many_by_two K mg:=⟨f24,_,fun_mk (st:=s_many_by_two) l24 c24 k24,PySem.W.mg_of X G a24,(fun_mk (st:=s_many_by_two) l24 c24 k24).binds fun _ _ _ _ _ _ us hl=>len2 us hl fun _ _=>rfl⟩
 let D25:DefAt K mg "law" s_law ["script"]:=⟨fa,_,fun_mk (st:=s_law) l25 c25 k25,PySem.W.mg_of X G a25,(fun_mk (st:=s_law) l25 c25 k25).binds fun _ _ _ _ _ _ us hl=>len1 us hl fun _=>rfl⟩
 exact ⟨D25.fd,fun s v=>.of_eq rfl,fun base _ _=>ok_law T D25 D1 D2 D3 D4 D5 D6 D7 D8 D9 D10 D11 D12 D13 D14 D15 D16 D17 D18 D19 D20 D21 D22 D23 D24⟩
theorem walk {l:PySem.W.OpenLaw} {q:Program} {loose:List Str} {XP:(Str->Option Value)->Heap->Prop} {YP:World->Heap->Prop} {d:DefRec} {K:Params->PySem.W.Frag} (hn:l.most=some 63) (hdf:d.params.defaults=[])
  (hY:∀(w:World) (h:Heap),YP w h->(K w.params).In h)
  (F:∀(w:World) (mg:Str->Option Value) (fa:Addr) (h:Heap),(K w.params).In h->h.Ns mainGlobals mg->mg d.name=some (.ref fa)->
   ∃fd:FuncData,(∀(s:Shared) (u:Value),BindsTo s fd ⟨[u],[]⟩ [("script",u)])/\∀base:Heap,(K w.params).In base->base.Ns mainGlobals mg->FnOk l.prog w (K w.params) mg base CX0 9 fa fd ["script"] (spOf (K w.params) S_law)) :
  PySem.W.WalkO q loose XP YP l.row.toRowW d [] (fun f vs=>PySem.call f vs):=
 L2.walk_of (n:=63) (k:=9) (x:="script") (CX:=fun _=>CX0) (sp:=fun w=>spOf (K w.params) S_law) hn (by decide) hdf ⟨rfl,by decide,by decide,rfl⟩ hY F (fun _ _ a ns hl _ hS=>sp_start hl hS) fun _ _ _ _ _ z=>z
end K18
namespace PySem.W.Fast
def tw8681076001134386101:=()
def tw15331099962735698988:=()
def tw4814598261667730375:=()
def tw13789778427225077822:=()
def tw3994794270215140776:=()
def tw3502897285170614857:=()
def tw8100115261605008703:=()
def tw3771541613812018164:=()
def tw5905928225219847227:=()
def tw14437154436866938589:=()
def tw4325207393314802660:=()
def tw17978059784158653014:=()
def tw1766313060382747634:=()
def tw17648100205457137127:=()
def tw11340053019500639353:=()
def tw2233508573595127800:=()
def tw12897761226125736120:=()
def tw2914020095718780270:=()
def tw17682751765298951131:=()
def tw1949716026238137373:=()
def tw12169282772034640895:=()
def tw5232681021131449364:=()
def tw5563446874577808369:=()
def tw4119134315331485764:=()
def tw6327589777067338746:=()
def tw8071940211091395253:=()
def tw1904884461411651008:=()
def tw3642909331683271639:=()
def tw12427055836702833689:=()
def tw6350930222320587885:=()
def tw9682960723171368452:=()
def tw12640575191750488160:=()
def tw7964253721270858151:=()
def tw152134975461133282:=()
def tw12570301204605851290:=()
def tw8189394437372052843:=()
def tw14378846793653172163:=()
def tw14829849342767217953:=()
def tw13809525949540692844:=()
def tw7227787569588478358:=()
def tw2828314731372207889:=()
def tw13817040875107016320:=()
def tw4426164323821084662:=()
def tw1129038967257057:=()
def tw4352464722458287433:=()
def tw3300400237045175003:=()
def tw729393437141598334:=()
def tw6282652733475691201:=()
def tw14253076904513193835:=()
def tw1620007489010078778:=()
def tw13593483965589756377:=()
def tw4597026875340271933:=()
def tw2436403106682245601:=()
def tw2386809640364785988:=()
def tw14443491392468475858:=()
def tw5398606646927617523:=()
def tw5851603900085782253:=()
def tw6782319343367593370:=()
def tw5829521715164331085:=()
def tw16776466372545132242:=()
def tw2421436708210405611:=()
def tw10373201806462944650:=()
def tw4977442166114174523:=()
def tw5893570504631247820:=()
def tw11767542954317015615:=()
def tw8179597345407178459:=()
def tw16806137287977199213:=()
def tw2374784770671380173:=()
def tw6788896490411701775:=()
def tw3317292189217307130:=()
def tw2767727103309528250:=()
def tw10844721656890719028:=()
def tw6330242299577585162:=()
def tw10906847473373291319:=()
def tw2739959800916986847:=()
def tw14616256488544345760:=()
def tw1852226336391544376:=()
def tw1251347695432397525:=()
def tw11426962502836226260:=()
def tw9528746048638918079:=()
def tw14492218237424177482:=()
def tw6463683138597365225:=()
def tw6508784388649769954:=()
def tw9432458699802652662:=()
def tw2960254913771733389:=()
def tw12589694560178833933:=()
def tw17061670094288675998:=()
def tw4753827095921340052:=()
def tw12938769455618209898:=()
def tw16487161895658474521:=()
def tw4886065758797883283:=()
def tw1298986658301376927:=()
def tw14534224458310306684:=()
def tw14060420601207835633:=()
def tw15987762860991092575:=()
def tw2425608873607632319:=()
def tw6439648712884992514:=()
def tw9037446577396962742:=()
def tw4951692903182887552:=()
def tw5592123210113536089:=()
def tw16814810774890776316:=()
def tw3900974795099244154:=()
def tw9972609264597632389:=()
def tw6820993650626359363:=()
def tw3107371902704958822:=()
def tw11781746430108277190:=()
def tw16477603414670674078:=()
def tw7667069533826302870:=()
def tw4290429492456043578:=()
def tw15672411902805755239:=()
def tw4279756522740890444:=()
def tw6343605261651600851:=()
def tw8163625790487456618:=()
def tw17829512608054752828:=()
def tw11281557296349750144:=()
def tw8766936771683743151:=()
def tw8691220629744510477:=()
def tw3254886764030051807:=()
def tw1243117115959044779:=()
def tw5242577237086110582:=()
def tw15822732414186559459:=()
def tw12103639635631929770:=()
def tw2137539492870843327:=()
def tw4279885007852792992:=()
def tw2709680351042603385:=()
def tw2625380727005553015:=()
def tw16763600941227578204:=()
def tw11581817121860698124:=()
def tw3807874014584505116:=()
def tw2031765499338320041:=()
def tw9901687283517225663:=()
def tw17575059932426520698:=()
def tw779572245386467996:=()
def tw3525857834917338906:=()
def tw3945648723717835382:=()
def tw3231955125982516287:=()
def tw10797707327935016345:=()
def tw13140361737841620029:=()
def tw17820144651561452660:=()
def tw13676406302662628794:=()
def tw6996300059372256931:=()
def tw8475845610619462229:=()
def tw14362473780985777739:=()
def tw16441412577634444724:=()
def tw2426643303082130981:=()
def tw9177522354415442011:=()
def tw17782646390541341510:=()
def tw13643893767442668128:=()
def tw5203202248976061888:=()
def tw7069903146932627850:=()
def tw11178188186147725487:=()
def tw1132003117393346791:=()
def tw6440152775414130377:=()
def tw11097175465367924362:=()
def tw6690336606297490947:=()
def tw5369826663707305136:=()
def tw437753176707438184:=()
def tw3312205524854605457:=()
def tw342371423512783424:=()
def tw195881115552631137:=()
def tw4452046028985009382:=()
def tw16303822268305090597:=()
def tw15032862504409431638:=()
def tw12358231322272386434:=()
def tw4997915639721664691:=()
def tw7707700740960605044:=()
def tw6157364697701045355:=()
def tw7616072903217403051:=()
def tw1095011025010467125:=()
def tw16132507826347164811:=()
def tw16287692343824252684:=()
def tw6420117485168487209:=()
def tw3491942210384458752:=()
def tw10895000409238909556:=()
def tw1542935663612475175:=()
def tw1618951439241643527:=()
def tw4081162053811144116:=()
def tw8428782310646059536:=()
def tw13784787588138110202:=()
def tw17407962975948540230:=()
def tw14569510317005267662:=()
def tw14213631732844451088:=()
def tw4168155209180269804:=()
def tw7449812126083357244:=()
def tw11932981595074133347:=()
def tw152599179107986557:=()
def tw15118687338013720959:=()
def tw4442476977492386768:=()
def tw817586679435347054:=()
def tw9820110949124408563:=()
def tw7288087013816166426:=()
def tw5593940957890915462:=()
def tw14456243562050235804:=()
def tw6968833028524106281:=()
def tw3324087124060712364:=()
def tw16814851527259652302:=()
def tw1462890160935042343:=()
def tw11801754640210025657:=()
def tw16383499566256438837:=()
def tw5013175703304869346:=()
def tw13312284872605480473:=()
def tw13716710892909931953:=()
def tw1821719525326494322:=()
def tw6457616240217279077:=()
def tw11704450952866362514:=()
def tw17523746034242487270:=()
def tw12034258589908137853:=()
def tw6601065604166495886:=()
def tw15145510418388429629:=()
def tw13654924985138841188:=()
def tw4355857483100483351:=()
def tw14629312925699112244:=()
def tw16109426485109036113:=()
def tw13179086607287127276:=()
def tw17191001584833886328:=()
def tw17676009070084768391:=()
def tw8068856364971947283:=()
def tw14662141569482999016:=()
def tw8678417495636771663:=()
def tw17958381693610802757:=()
def tw18065971102686498781:=()
def tw8916762895351241220:=()
def tw1497090341635898194:=()
def tw3206545498153354921:=()
end PySem.W.Fast
open PySem PySem.W PyProof.Rows
set_option maxRecDepth 100000 in
set_option maxHeartbeats 0 in
theorem PySem.Challenge.cw_mirrorsums_k18_whole_sums_counted_holds : PySem.Challenge.rw_mirrorsums_k18_whole_sums_counted.Holds := by
 w_on;o_law;k_head;(case hw=>w_witness2)
 k_fill
 refine K18.walk (l:=PySem.Challenge.rw_mirrorsums_k18_whole_sums_counted) rfl rfl (fun w h Y=>PySem.W.kIn_of Y) ?F
 case F=>
  intro w mg fa h KX G hmg
  refine' K18.all_mk KX G hmg ?a1 ?l1 ?c1 ?k1 ?a2 ?l2 ?c2 ?k2 ?a3 ?l3 ?c3 ?k3 ?a4 ?l4 ?c4 ?k4 ?a5 ?l5 ?c5 ?k5 ?a6 ?l6 ?c6 ?k6 ?a7 ?l7 ?c7 ?k7 ?a8 ?l8 ?c8 ?k8 ?a9 ?l9 ?c9 ?k9 ?a10 ?l10 ?c10 ?k10 ?a11 ?l11 ?c11 ?k11 ?a12 ?l12 ?c12 ?k12 ?a13 ?l13 ?c13 ?k13 ?a14 ?l14 ?c14 ?k14 ?a15 ?l15 ?c15 ?k15 ?a16 ?l16 ?c16 ?k16 ?a17 ?l17 ?c17 ?k17 ?a18 ?l18 ?c18 ?k18 ?a19 ?l19 ?c19 ?k19 ?a20 ?l20 ?c20 ?k20 ?a21 ?l21 ?c21 ?k21 ?a22 ?l22 ?c22 ?k22 ?a23 ?l23 ?c23 ?k23 ?a24 ?l24 ?c24 ?k24 ?a25 ?l25 ?c25 ?k25 ?z_isinstance ?z_int ?z_bool ?z_list ?z_len ?z_sum ?z_range ?z_enumerate ?z_min ?z_max ?z_divmod ?y_LEAST_BASE ?y_GREATEST_BASE
  (case a1=>k_is)
  (case l1=>k_is)
  (case c1=>k_is)
  (case k1=>k_is)
  (case a2=>k_is)
  (case l2=>k_is)
  (case c2=>k_is)
  (case k2=>k_is)
  (case a3=>k_is)
  (case l3=>k_is)
  (case c3=>k_is)
  (case k3=>k_is)
  (case a4=>k_is)
  (case l4=>k_is)
  (case c4=>k_is)
  (case k4=>k_is)
  (case a5=>k_is)
  (case l5=>k_is)
  (case c5=>k_is)
  (case k5=>k_is)
  (case a6=>k_is)
  (case l6=>k_is)
  (case c6=>k_is)
  (case k6=>k_is)
  (case a7=>k_is)
  (case l7=>k_is)
  (case c7=>k_is)
  (case k7=>k_is)
  (case a8=>k_is)
  (case l8=>k_is)
  (case c8=>k_is)
  (case k8=>k_is)
  (case a9=>k_is)
  (case l9=>k_is)
  (case c9=>k_is)
  (case k9=>k_is)
  (case a10=>k_is)
  (case l10=>k_is)
  (case c10=>k_is)
  (case k10=>k_is)
  (case a11=>k_is)
  (case l11=>k_is)
  (case c11=>k_is)
  (case k11=>k_is)
  (case a12=>k_is)
  (case l12=>k_is)
  (case c12=>k_is)
  (case k12=>k_is)
  (case a13=>k_is)
  (case l13=>k_is)
  (case c13=>k_is)
  (case k13=>k_is)
  (case a14=>k_is)
  (case l14=>k_is)
  (case c14=>k_is)
  (case k14=>k_is)
  (case a15=>k_is)
  (case l15=>k_is)
  (case c15=>k_is)
  (case k15=>k_is)
  (case a16=>k_is)
  (case l16=>k_is)
  (case c16=>k_is)
  (case k16=>k_is)
  (case a17=>k_is)
  (case l17=>k_is)
  (case c17=>k_is)
  (case k17=>k_is)
  (case a18=>k_is)
  (case l18=>k_is)
  (case c18=>k_is)
  (case k18=>k_is)
  (case a19=>k_is)
  (case l19=>k_is)
  (case c19=>k_is)
  (case k19=>k_is)
  (case a20=>k_is)
  (case l20=>k_is)
  (case c20=>k_is)
  (case k20=>k_is)
  (case a21=>k_is)
  (case l21=>k_is)
  (case c21=>k_is)
  (case k21=>k_is)
  (case a22=>k_is)
  (case l22=>k_is)
  (case c22=>k_is)
  (case k22=>k_is)
  (case a23=>k_is)
  (case l23=>k_is)
  (case c23=>k_is)
  (case k23=>k_is)
  (case a24=>k_is)
  (case l24=>k_is)
  (case c24=>k_is)
  (case k24=>k_is)
  (case a25=>k_is)
  (case l25=>k_is)
  (case c25=>k_is)
  (case k25=>k_is)
  (case z_isinstance=>k_is)
  (case z_int=>k_is)
  (case z_bool=>k_is)
  (case z_list=>k_is)
  (case z_len=>k_is)
  (case z_sum=>k_is)
  (case z_range=>k_is)
  (case z_enumerate=>k_is)
  (case z_min=>k_is)
  (case z_max=>k_is)
  (case z_divmod=>k_is)
  (case y_LEAST_BASE=>k_is)
  (case y_GREATEST_BASE=>k_is)
