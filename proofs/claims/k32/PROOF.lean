import PyProof.Rows.All
import Wide.All
import OpenK.AllK
import Wide.FinOn
import Lean
import PyProof.EqAt
import PyProof.EqKinds
import PyProof.TupleCall
import PyProof.ZipIter
import PyProof.Rows.ZipGen
import PyProof.DictCompW
import KE.KRevIter
import PyProof.StrCalls2
import PyProof.StrWalks
import PyProof.Rows.StrItems
import PyProof.StrLawsTight
import PyProof.Rows.SetFrom
import PyProof.CollectIter
import PyProof.FactsAll.set
import PyProof.StationsW
import PyProof.ExcClass3
import PyProof.RulesAs
import OpenK.KRaise
import PyProof.ExcBaseAll.ValueError
import OpenK.KOwn
import PyProof.NsDelKeeps
import PyProof.ExcArgsOwn
import PyProof.ExcAttrAll.ValueError
import PyProof.IsiBase
import KE.KIsAll
import PyProof.ExcNew
import PyProof.ExcFactsAll.ValueError
import PyProof.ListRange
import PyProof.ReprRoads
import PyProof.ReprLen
import PyProof.P3In
import PyProof.NeData
import PyProof.Rows.SortWalk
import PyProof.AutoRange
import PyProof.FactsAll.range_2
import PyProof.MeetsSeq
import PyProof.FactsAll.list_3
import PyProof.Rows.Range3
import PyProof.AttrMissHeap
import PyProof.FactsAll.enumerate_0
import PyProof.FactsAll.enumerate_1
import KE.KDictOf
import PyProof.DictRoadsH
import PyProof.MeetsDict
import PyProof.DictCalls
import PyProof.Rows.SortShell
import PyProof.StrBlockI
import PyProof.StrBlock2
import PyProof.DictTruth
import KE.KUnpack
import PySem.Challenge.RW_mirrorsums_k32_whole_again_and_shared
set_option Elab.async false
set_option linter.all false
set_option maxRecDepth 100000
namespace L2
open PySem PySem.Spec PyProof.Rows
abbrev Key:=Sum Int Str
def keyIs:Key->Value->Bool
 | .inl k,v=>Value.isInt k v
 | .inr x,v=>Value.isStrOf x v
def keyH (w:World):Key->Int
 | .inl k=>hashInt k
 | .inr x=>hashStr w x
theorem keyIs_shape:∀{k:Key} {v:Value},keyIs k v=true->(∃i t,k=Sum.inl i/\v=Value.int i t)\/(∃x t,k=Sum.inr x/\v=Value.str x t)
 | .inl i,v,h=>by
  obtain ⟨t,e⟩:=Value.isInt_shape (k:=i) (v:=v) h
  exact .inl ⟨i,t,rfl,e⟩
 | .inr x,v,h=>by
  obtain ⟨t,e⟩:=Value.isStrOf_shape (x:=x) (v:=v) h
  exact .inr ⟨x,t,rfl,e⟩
theorem keyIs_int (i:Int) (t:Tok):keyIs (.inl i) (.int i t)=true:=by simp [keyIs,Value.isInt]
theorem keyIs_str (x:Str) (t:Tok):keyIs (.inr x) (.str x t)=true:=by simp [keyIs,Value.isStrOf]
theorem key_ll (a b:Int):decide ((Sum.inl a:Key)=Sum.inl b)=(a == b):=by
 by_cases e:a=b
 ·subst e;simp
 ·have h:¬(Sum.inl a:Key)=Sum.inl b:=fun q=>e (Sum.inl.inj q)
  rw [decide_eq_false h]
  exact (beq_eq_false_iff_ne.mpr e).symm
theorem key_rr (a b:Str):decide ((Sum.inr a:Key)=Sum.inr b)=decide (a=b):=by
 by_cases e:a=b
 ·subst e;simp
 ·have h:¬(Sum.inr a:Key)=Sum.inr b:=fun q=>e (Sum.inr.inj q)
  rw [decide_eq_false h,decide_eq_false e]
theorem key_lr (a:Int) (b:Str):decide ((Sum.inl a:Key)=Sum.inr b)=false:=decide_eq_false (fun q=>nomatch q)
theorem key_rl (a:Str) (b:Int):decide ((Sum.inr a:Key)=Sum.inl b)=false:=decide_eq_false (fun q=>nomatch q)
def mixKind (prog:Program) (w:World):PySem.KeyKind prog w Key where
 is:=keyIs
 hash:=keyH w
 inj:=fun v a b ha hb=>by
  rcases keyIs_shape ha with ⟨i,t,rfl,rfl⟩|⟨x,t,rfl,rfl⟩
  ·rcases keyIs_shape hb with ⟨j,u,rfl,e⟩|⟨y,u,rfl,e⟩
   ·injection e with e1 _;rw [e1]
   ·exact nomatch e
  ·rcases keyIs_shape hb with ⟨j,u,rfl,e⟩|⟨y,u,rfl,e⟩
   ·exact nomatch e
   ·injection e with e1 _;rw [e1]
 byValue:=fun k v h=>by
  rcases keyIs_shape h with ⟨i,t,rfl,rfl⟩|⟨x,t,rfl,rfl⟩<;>rfl
 pyHash:=fun hv h=>by
  rcases keyIs_shape hv with ⟨i,t,rfl,rfl⟩|⟨x,t,rfl,rfl⟩
  ·exact wpAny_pyHash_int h
  ·exact wpAny_pyHash_str h
 eqBool:=fun hu hv h=>by
  rcases keyIs_shape hu with ⟨i,t,rfl,rfl⟩|⟨x,t,rfl,rfl⟩
  ·rcases keyIs_shape hv with ⟨j,u,rfl,rfl⟩|⟨y,u,rfl,rfl⟩
   ·rw [key_ll] at h;exact wpAny_eqBool_int h
   ·rw [key_lr] at h;exact SeqAt.EqAt.int_str i t y u _ _ _ _ h
  ·rcases keyIs_shape hv with ⟨j,u,rfl,rfl⟩|⟨y,u,rfl,rfl⟩
   ·rw [key_rl] at h;exact SeqAt.EqAt.str_int x t j u _ _ _ _ h
   ·rw [key_rr] at h;exact wpAny_eqBool_str h
 «strs»:=fun k x t v h=>by
  rcases keyIs_shape h with ⟨i,u,rfl,e⟩|⟨y,u,rfl,e⟩
  ·exact nomatch e
  ·injection e with e1 _
   subst e1
   cases v<;>rfl
theorem mixKind_int (prog:Program) (w:World) (i:Int) (t:Tok):(mixKind prog w).is (.inl i) (.int i t)=true:=keyIs_int i t
theorem mixKind_str (prog:Program) (w:World) (x:Str) (t:Tok):(mixKind prog w).is (.inr x) (.str x t)=true:=keyIs_str x t
inductive V where
 | non|bl (b:Bool)|int (i:Int)|str (x:Str)|byt (b:Array UInt8)|flt (b:UInt64)|ref (a:Addr)|ty (n:String)
 deriving DecidableEq
def RelV:V->Value->Prop
 | .non,u=>u=Value.none
 | .bl b,u=>u=Value.bool b
 | .int i,u=>∃t,u=Value.int i t
 | .str x,u=>∃t,u=Value.str x t
 | .byt b,u=>∃t,u=Value.bytes b t
 | .flt b,u=>∃t,u=Value.float b t
 | .ref a,u=>u=Value.ref a
 | .ty n,u=>u=Value.type n
abbrev Vals:List V->List Value->Prop:=Paired RelV
theorem Vals.length {xs:List V} {us:List Value} (r:Vals xs us):xs.length=us.length:=Paired.length r
theorem Vals.get:∀{xs:List V} {us:List Value} {i:Nat} {x:V},Vals xs us->xs[i]? = some x->∃u,us[i]? = some u/\RelV x u
 | _,_,_,_,.nil,e=>by simp at e
 | _,_,0,_,.cons r _,e=>by simp at e;subst e;exact ⟨_,rfl,r⟩
 | _,_,i+1,x,.cons _ t,e=>by
  obtain ⟨u,h1,h2⟩:=Vals.get (i:=i) (x:=x) t (by simpa using e)
  exact ⟨u,by simpa using h1,h2⟩
theorem Vals.set {x:V} {u:Value} (r:RelV x u):∀{xs:List V} {us:List Value} (i:Nat),Vals xs us->Vals (xs.set i x) (us.set i u)
 | _,_,_,.nil=>.nil
 | _,_,0,.cons _ t=>.cons r t
 | _,_,i+1,.cons q t=>.cons q (Vals.set r i t)
theorem Vals.append:∀{xs ys:List V} {us ws:List Value},Vals xs us->Vals ys ws->Vals (xs++ys) (us++ws)
 | _,_,_,_,.nil,s=>s
 | _,_,_,_,.cons r t,s=>.cons r (Vals.append t s)
theorem Vals.take:∀{xs:List V} {us:List Value} (n:Nat),Vals xs us->Vals (xs.take n) (us.take n)
 | _,_,0,_=>.nil
 | _,_,_+1,.nil=>.nil
 | _,_,n+1,.cons r t=>.cons r (Vals.take n t)
theorem Vals.drop:∀{xs:List V} {us:List Value} (n:Nat),Vals xs us->Vals (xs.drop n) (us.drop n)
 | _,_,0,r=>r
 | _,_,_+1,.nil=>.nil
 | _,_,n+1,.cons _ t=>Vals.drop n t
def RelO:Option V->Option Value->Prop
 | some v,some u=>RelV v u
 | none,none=>True
 | _,_=>False
def KV {κ:Type}:List (κ × V)->List (κ × Value)->Prop:=Paired fun (p:κ × V) (q:κ × Value)=>p.1=q.1/\RelV p.2 q.2
def kV:Key->V
 | .inl i=>.int i
 | .inr x=>.str x
inductive HO where
 /-- a list -/
 | lst (xs:List V)
 /-- a tuple (never changes) -/
 | tup (xs:List V)
 /-- a dict whose keys are ints and texts;one whose keys are tuples of ints and texts (the empty one is both) -/
 | dK (kvs:List (Key × V))|dT (kvs:List (List Key × V))
 /-- a set of ints: its members,its size -/
 | set (S:Int->Bool) (n:Nat)
 /-- an instance of the class at C,its dict at dx,its attributes -/
 | ins (C dx:Addr) (fs:List (Str × V))
 /-- the dict of the instance at x -/
 | own (x:Addr)
 /-- the dict of an exception -/
 | xd (fs:List (Str × V))
 /-- a bound method,f of x -/
 | met (f x:Addr)
 /-- a range object lo,lo+1,.. below hi -/
 | rng (lo hi:Int)
 /-- a thing that is known to the object (the script;a dict while a loop walks it): read,never written while it is so -/
 | frz (o:Obj) (u:HO)
 /-- a code object's table -/
 | tbl (ps:Array Value)
 /-- any other thing,by what is true of its one object (a def of one's own: SetO a S n:=HO.ext fun h=>..) -/
 | ext (φ:Heap->Prop)
abbrev Hp:=Addr->Option HO
def upd (H:Hp) (a:Addr) (o:HO):Hp:=fun b=>if b=a then some o else H b
theorem upd_same {H:Hp} {a:Addr} {o:HO}:upd H a o a=some o:=by unfold upd;rw [if_pos rfl]
theorem upd_ne {H:Hp} {a b:Addr} {o:HO} (h:b≠a):upd H a o b=H b:=by unfold upd;rw [if_neg h]
theorem ne_of {H:Hp} {a b:Addr} {o u:HO} (h:H a=some o) (h':H b=some u) (d:o≠u):a≠b:=by
 intro e;subst e;rw [h] at h';exact d (Option.some.inj h')
theorem ne_of_none {H:Hp} {a b:Addr} {o:HO} (h:H a=some o) (h':H b=none):a≠b:=by
 intro e;subst e;rw [h] at h';cases h'
section
variable (P:Program) (w:World)
def ObjOk (H:Hp) (h:Heap) (a:Addr):HO->Prop
 | .lst xs=>xs.length<=sizeLine/\∃(its:List Value) (n:Nat),Vals xs its/\h.get? a=some { cls:=.type "list",data:=.seq its.toArray n }
 | .tup xs=>xs.length<=sizeLine/\∃its:List Value,Vals xs its/\IsTup h a its.toArray
 | .dK kvs=>kvs.length<=sizeLine/\(a == sysModules)=false/\∃vs,KV kvs vs/\h.DictOf (mixKind P w) a vs
 | .dT kvs=>kvs.length<=sizeLine/\(a == sysModules)=false/\∃xs:List (List Key × Addr × Value),
   Paired (fun (p:List Key × V) (q:List Key × Addr × Value)=>p.1=q.1/\H q.2.1=some (.tup (p.1.map kV))/\RelV p.2 q.2.2) kvs xs /\
   ∃o es ep,h.get? a=some o/\o.ExactDict/\o.data=.dict es ep/\es.toList=xs.map (entryOfKey (tupleKind (mixKind P w)))/\(xs.map (·.1)).Nodup
 | .set S n=>h.SetOf (intKind P w) a S n
 | .ins C dx fs=>H dx=some (.own a)/\fs.length<=1000/\dx≠a/\h.get? a=some (PySem.W.instObj C dx) /\
   ∃mA,h.Ns1 dx mA/\(∀f,RelO (fs.lookup f) (mA f))/\PySem.Within mA (fs.map (·.1))
 | .own _=>∃o,h.get? a=some o
 | .xd fs=>∃mA,h.Ns1 a mA/\∀f,RelO (fs.lookup f) (mA f)
 | .rng lo hi=>∃t u v,h.get? a=some { cls:=.type "range",data:=.fields #[.int lo t,.int hi u,.int 1 v] }
 | .frz o u=>h.get? a=some o/\ObjOk H h a u
 | .tbl ps=>h.get? a=some { cls:=.none,data:=.fields ps }
 | .met f x=>h.get? a=some (PySem.W.methodObj (.ref f) (.ref x))
 | .ext φ=>φ h/\(∃o,h.get? a=some o)/\∀h1 h2:Heap,φ h1->(∀o,h1.get? a=some o->h2.get? a=some o)->φ h2
def HOk (H:Hp) (h:Heap):Prop:=∀a o,H a=some o->ObjOk P w H h a o
end
section
variable {P:Program} {w:World} {H H':Hp} {h h':Heap} {a:Addr} {o:HO}
theorem ObjOk.lt (x:ObjOk P w H h a o):a<h.objs.size:=by
 cases o with
 | lst xs=>obtain ⟨_,_,_,_,e⟩:=x;exact Heap.lt_size e
 | tup xs=>obtain ⟨_,_,_,p⟩:=x;exact p.lt
 | dK kvs=>obtain ⟨_,_,_,_,o,_,_,e,_⟩:=x;exact Heap.lt_size e
 | dT kvs=>obtain ⟨_,_,_,_,o,_,_,e,_⟩:=x;exact Heap.lt_size e
 | set S n=>obtain ⟨o,_,_,_,e,_⟩:=x;exact Heap.lt_size e
 | ins C dx fs=>obtain ⟨_,_,_,e,_⟩:=x;exact Heap.lt_size e
 | own y=>obtain ⟨_,e⟩:=x;exact Heap.lt_size e
 | xd fs=>obtain ⟨_,⟨_,_,_,e,_⟩,_⟩:=x;exact Heap.lt_size e
 | rng lo hi=>obtain ⟨_,_,_,e⟩:=x;exact Heap.lt_size e
 | frz ob u=>obtain ⟨e,_⟩:=x;exact Heap.lt_size e
 | tbl ps=>exact Heap.lt_size (show h.get? a=some _ from x)
 | met f y=>exact Heap.lt_size (show h.get? a=some _ from x)
 | ext φ=>obtain ⟨_,⟨_,e⟩,_⟩:=x;exact Heap.lt_size e
theorem Paired.mapP {α β:Type} {F G:α->β->Prop}:∀{l₁:List α} {l₂:List β},Paired F l₁ l₂->(∀a b,F a b->G a b)->Paired G l₁ l₂
 | _,_,.nil,_=>.nil
 | _,_,.cons r t,f=>.cons (f _ _ r) (Paired.mapP t f)
theorem ObjOk.stay (x:ObjOk P w H h a o) (k:∀b u,(b=a\/H b=some (.own a))->h.get? b=some u->h'.get? b=some u)
  (ho:∀b,H b=some (.own a)->H' b=some (.own a)) (ht:∀b xs,H b=some (.tup xs)->H' b=some (.tup xs)):ObjOk P w H' h' a o:=by
 induction o with
 | lst xs=>obtain ⟨z,its,n,r,e⟩:=x;exact ⟨z,its,n,r,k _ _ (.inl rfl) e⟩
 | tup xs=>obtain ⟨z,its,r,ob,e,c⟩:=x;exact ⟨z,its,r,ob,k _ _ (.inl rfl) e,c⟩
 | dK kvs=>obtain ⟨z,y,vs,r,ob,es,ep,e,c⟩:=x;exact ⟨z,y,vs,r,ob,es,ep,k _ _ (.inl rfl) e,c⟩
 | dT kvs=>
  obtain ⟨z,y,xs,r,ob,es,ep,e,c⟩:=x
  exact ⟨z,y,xs,Paired.mapP r fun p q z=>⟨z.1,ht _ _ z.2.1,z.2.2⟩,ob,es,ep,k _ _ (.inl rfl) e,c⟩
 | set S n=>obtain ⟨ob,es,ep,t,e,c⟩:=x;exact ⟨ob,es,ep,t,k _ _ (.inl rfl) e,c⟩
 | ins C dx fs=>
  obtain ⟨d,z,ne,e,mA,⟨od,es,ep,e2,c⟩,r⟩:=x
  exact ⟨ho _ d,z,ne,k _ _ (.inl rfl) e,mA,⟨od,es,ep,k _ _ (.inr d) e2,c⟩,r⟩
 | own y=>obtain ⟨ob,e⟩:=x;exact ⟨ob,k _ _ (.inl rfl) e⟩
 | xd fs=>obtain ⟨mA,⟨od,es,ep,e,c⟩,r⟩:=x;exact ⟨mA,⟨od,es,ep,k _ _ (.inl rfl) e,c⟩,r⟩
 | rng lo hi=>obtain ⟨t,u,v,e⟩:=x;exact ⟨t,u,v,k _ _ (.inl rfl) e⟩
 | frz ob u ih=>obtain ⟨e,q⟩:=x;exact ⟨k _ _ (.inl rfl) e,ih q⟩
 | tbl ps=>
  have e:h.get? a=some { cls:=.none,data:=.fields ps }:=x
  show h'.get? a=some { cls:=.none,data:=.fields ps }
  exact k a _ (.inl rfl) e
 | met f y=>
  have e:h.get? a=some (PySem.W.methodObj (.ref f) (.ref y)):=x
  show h'.get? a=some (PySem.W.methodObj (.ref f) (.ref y))
  exact k a _ (.inl rfl) e
 | ext φ=>obtain ⟨p,⟨o,e⟩,st⟩:=x;exact ⟨st _ _ p fun o q=>k _ _ (.inl rfl) q,⟨o,k _ _ (.inl rfl) e⟩,st⟩
theorem HOk.lt (x:HOk P w H h) (e:H a=some o):a<h.objs.size:=(x a o e).lt
theorem HOk.fresh (x:HOk P w H h) (e:h.objs.size<=a):H a=none:=by
 cases q:H a with
 | none=>rfl
 | some u=>exact absurd (Nat.lt_of_lt_of_le (x.lt q) e) (Nat.lt_irrefl _)
theorem HOk.kept (x:HOk P w H h) (k:∀b u,h.get? b=some u->h'.get? b=some u):HOk P w H h':=fun a o e=>
 (x a o e).stay (fun b u _ q=>k b u q) (fun _ q=>q) fun _ _ q=>q
theorem HOk.laid (x:HOk P w H h) (k:∀b u,h.get? b=some u->h'.get? b=some u) (hp:h.objs.size<=a) (new:ObjOk P w (upd H a o) h' a o):HOk P w (upd H a o) h':=fun b u e=>by
 have hn:=x.fresh hp
 by_cases hb:b=a
 ·subst hb;rw [upd_same] at e;cases e;exact new
 ·rw [upd_ne hb] at e
  exact (x b u e).stay (fun c v _ q=>k c v q) (fun c q=>by rw [upd_ne (ne_of_none q hn)];exact q) fun c xs q=>by rw [upd_ne (ne_of_none q hn)];exact q
end
def Rd (H:Hp) (a:Addr) (u:HO):Prop:=H a=some u\/∃o,H a=some (.frz o u)
theorem Rd.ok {P:Program} {w:World} {H:Hp} {h:Heap} {a:Addr} {u:HO} (r:Rd H a u) (x:HOk P w H h):ObjOk P w H h a u:=by
 rcases r with r|⟨o,r⟩
 ·exact x a u r
 ·obtain ⟨_,q⟩:=x a _ r
  exact q
def Mut:Option HO->Prop
 | some (.lst _)=>True
 | some (.dK _)=>True
 | some (.dT _)=>True
 | some (.set _ _)=>True
 | some (.ins _ _ _)=>True
 | some (.ext _)=>True
 | _=>False
section
variable {P:Program} {w:World} {H:Hp} {h h':Heap} {x e:Addr} {o':HO}
theorem HOk.write (ok:HOk P w H h) (mu:Mut (H x)) (he:e=x\/H e=some (.own x)) (k:∀b u,b≠e->h.get? b=some u->h'.get? b=some u) (heo:∃u,h'.get? e=some u)
  (new:ObjOk P w (upd H x o') h' x o'):HOk P w (upd H x o') h':=fun b u q=>by
 have nown:∀c y,H c=some (.own y)->c≠x:=fun c y r z=>by subst z;rw [r] at mu;exact mu
 have ntup:∀c xs,H c=some (.tup xs)->c≠x:=fun c xs r z=>by subst z;rw [r] at mu;exact mu
 by_cases hb:b=x
 ·subst hb;rw [upd_same] at q;cases q;exact new
 ·rw [upd_ne hb] at q
  by_cases hbe:b=e
  ·have q':H b=some (.own x):=by
    rcases he with z|z
    ·exact absurd (hbe.trans z) hb
    ·rw [hbe];exact z
   rw [q] at q';cases q'
   obtain ⟨v,hv⟩:=heo
   exact ⟨v,by rw [hbe];exact hv⟩
  ·refine (ok b u q).stay (fun c v hc r=>k c v ?_ r) (fun c r=>by rw [upd_ne (nown c b r)];exact r) fun c xs r=>by rw [upd_ne (ntup c xs r)];exact r
   rcases hc with rfl|hc
   ·exact hbe
   ·rintro rfl
    rcases he with z|z
    ·exact nown c b hc z
    ·rw [hc] at z;cases z;exact hb rfl
end
structure Un (fs ex:List Addr) (H H':Hp) (h h':Heap):Prop where
 keep:∀b o,h.get? b=some o->H b=none->b ∉ fs->b ∉ ex->h'.get? b=some o
 slot:∀b o,h.get? b=some o->H b=none->b∈fs->b ∉ ex->∃sl,h'.get? b=some { o with slots:=sl }
 free:∀b o,h.get? b=some o->H b=none->b ∉ ex->H' b=none
 there:∀b o,h.get? b=some o->b ∉ ex->∃o',h'.get? b=some o'
 tups:∀b xs,H b=some (.tup xs)->H' b=some (.tup xs)
 frzs:∀b o u,H b=some (.frz o u)->H' b=some (.frz o u)
 tbls:∀b ps,H b=some (.tbl ps)->∃more,H' b=some (.tbl (ps++more))
section
variable {fs fs' ex ex':List Addr} {H H1 H2:Hp} {h h1 h2 h':Heap} {a x e:Addr} {o:HO}
theorem Un.any (u:Un fs ex H H1 h h1) {b:Addr} {ob:Obj} (q:h.get? b=some ob) (n:H b=none) (hx:b ∉ ex):∃sl,h1.get? b=some { ob with slots:=sl }:=by
 by_cases hb:b∈fs
 ·exact u.slot b ob q n hb hx
 ·exact ⟨ob.slots,u.keep b ob q n hb hx⟩
theorem Un.kept (k:∀b u,h.get? b=some u->h'.get? b=some u):Un fs ex H H h h':=
 ⟨fun b ob q _ _ _=>k b ob q,fun b ob q _ _ _=>⟨ob.slots,k b ob q⟩,fun _ _ _ n _=>n,fun b ob q _=>⟨ob,k b ob q⟩,fun _ _ q=>q,fun _ _ _ q=>q,fun _ ps q=>⟨#[],by rw [q];simp⟩⟩
theorem Un.refl:Un fs ex H H h h:=Un.kept fun _ _ q=>q
theorem Un.laid (k:∀b u,h.get? b=some u->h'.get? b=some u) (hp:h.objs.size<=a) (hn:H a=none):Un fs ex H (upd H a o) h h' where
 keep:=fun b u q _ _ _=>k b u q
 slot:=fun b u q _ _ _=>⟨u.slots,k b u q⟩
 free:=fun b u q n _=>by rw [upd_ne (Nat.ne_of_lt (Nat.lt_of_lt_of_le (Heap.lt_size q) hp))];exact n
 there:=fun b u q _=>⟨u,k b u q⟩
 tups:=fun b xs q=>by rw [upd_ne (ne_of_none q hn)];exact q
 frzs:=fun b u xs q=>by rw [upd_ne (ne_of_none q hn)];exact q
 tbls:=fun b ps q=>⟨#[],by rw [upd_ne (ne_of_none q hn),q];simp⟩
theorem Un.write (mu:Mut (H x)) (he:e=x\/H e=some (.own x)) (k:∀b u,b≠e->h.get? b=some u->h'.get? b=some u) (heo:∃u,h'.get? e=some u):Un fs ex H (upd H x o) h h':=by
 have hx:∀b,H b=none->b≠x:=fun b n z=>by subst z;rw [n] at mu;exact mu
 have hb:∀b,H b=none->b≠e:=fun b n z=>by
  subst z
  rcases he with r|r
  ·exact hx b n r
  ·rw [n] at r;cases r
 have hm:∀b u,H b=some u->¬Mut (some u)->b≠x:=fun b u q nm z=>by subst z;rw [q] at mu;exact nm mu
 refine ⟨fun b u q n _ _=>k b u (hb b n) q,fun b u q n _ _=>⟨u.slots,k b u (hb b n) q⟩,fun b u q n _=>by rw [upd_ne (hx b n)];exact n,fun b u q _=>?_,
  fun b xs q=>by rw [upd_ne (hm b _ q fun z=>z)];exact q,fun b u xs q=>by rw [upd_ne (hm b _ q fun z=>z)];exact q,fun b ps q=>⟨#[],by rw [upd_ne (hm b _ q fun z=>z),q];simp⟩⟩
 by_cases hbe:b=e
 ·subst hbe;exact heo
 ·exact ⟨u,k b u hbe q⟩
end
def trk (h:Heap) (H:Hp):List Addr:=(List.range h.objs.size).filter fun a=>(H a).isSome
def hidT (h:Heap) (H:Hp):Heap:=PySem.W.hideAll h (trk h H)
theorem hidT_size (h:Heap) (H:Hp):(hidT h H).objs.size=h.objs.size:=PySem.W.hideAll_size _ _
theorem hidT_get {h:Heap} {H:Hp} {b:Addr} {o:Obj} (e:h.get? b=some o) (n:H b=none):(hidT h H).get? b=some o:=
 PySem.W.hideAll_get _ e fun hm=>by
  have q:(H b).isSome=true:=(List.mem_filter.mp hm).2
  rw [n] at q;simp at q
theorem of_hidT {h:Heap} {H:Hp} {b:Addr} {o:Obj} (e:(hidT h H).get? b=some o):h.get? b=some o/\H b=none:=by
 have e':h.get? b=some o:=PySem.W.of_hideAll (trk h H) e
 refine ⟨e',?_⟩
 cases q:H b with
 | none=>rfl
 | some x=>
  have hm:b∈trk h H:=List.mem_filter.mpr ⟨List.mem_range.mpr (Heap.lt_size e'),by simp [q]⟩
  have z:(hidT h H).get? b=none:=PySem.W.hideAll_none (trk h H) hm
  rw [z] at e;cases e
def allNews (g h:Heap) (L:Addr):List (Addr × Obj):=(List.range h.objs.size).filterMap fun a=>if a=L\/(g.get? a).isSome=true then none else (h.get? a).map fun o=>(a,o)
def rest (g h:Heap) (L d:Addr):List (Addr × Obj):=(allNews g h L).filter fun p=>decide (p.1≠d)
structure Mod (K:PySem.W.Frag) (mg:Str->Option Value) (base:Heap):Prop where
 kin:K.In base
 glob:base.Ns mainGlobals mg
 blt:∃mb,base.Ns builtinsNs mb/\∀x:Str,x≠"__name__"->mb x=bootBuiltins x
 nolimit:base.NoLimit
structure Cx where
 prog:Program
 w:World
 K:PySem.W.Frag
 mg:Str->Option Value
 base:Heap
 A:Around
 N:List Str
 s₀:Shared
 H₀:Hp
 env:Env
 outer:List Env
 stack:List Env
 ex:List Addr
 fn:Str->Bool
 calm:Bool
 pn:List (Addr × Obj)
 xe:Value->Shared->Prop
def frs (l:List Env):List Addr:=l.filterMap (·.frame)
abbrev Cx.fs (X:Cx):List Addr:=frs X.outer
def Vis (sc:Scope) (x:Str):Prop:=sc.names.lookup x=some .local\/sc.names.lookup x=some .cell\/sc.names.lookup x=some .free
def Loc (sc:Scope) (x:Str):Prop:=sc.names.lookup x=some .local\/sc.names.lookup x=some .cell
def Look (env:Env) (h:Heap) (m:Str->Option Value) (x:Str) (u:Value):Prop:=
 (env.kindOf x=some .local/\m x=some u)\/((env.kindOf x=some .cell\/env.kindOf x=some .free)/\∃c,env.cells.lookup x=some c/\h.IsCell c (some u))
structure Cx.Ok (X:Cx):Prop where
 mod:Mod X.K X.mg X.base
 kind:X.env.scope.kind=.function
 glob:X.env.globals=mainGlobals
 blt:X.env.builtins=builtinsNs
 above:X.s₀.heap.objs.size<=X.env.locals
 inj:∀x y c,X.env.cells.lookup x=some c->X.env.cells.lookup y=some c->x=y
 has:∀x,(X.env.kindOf x=some .cell\/X.env.kindOf x=some .free)->∃c,X.env.cells.lookup x=some c
 cab:∀x c,X.fn x=true->X.env.cells.lookup x=some c->X.s₀.heap.objs.size<=c
 hd:X.calm=true->X.A.handled=none
 frames:X.A.frames=some X.stack
 stk:X.stack=X.outer\/(X.stack=X.env::X.outer/\X.env.frame=some X.env.locals)
 exf:∀b∈X.ex,b≠X.env.locals/\∀x c,X.env.cells.lookup x=some c->c≠b
 bs:∀b o,X.base.get? b=some o->X.s₀.heap.get? b=some o/\X.H₀ b=none
 bsz:X.base.objs.size<=X.s₀.heap.objs.size
 noex:∀b o,X.base.get? b=some o->b ∉ X.ex
 exfs:∀b∈X.ex,b ∉ X.fs
 funs:X.s₀.heap.FunFrames X.base X.outer
 frf:∀b∈X.fs,X.H₀ b=none
structure Inv (X:Cx) (pins:List (Addr × Obj)) (σ:List (Option V)) (H:Hp) (s:Shared):Prop where
 ok:X.Ok
 os:s.os=X.s₀.os
 bare:AllBare s.gens
 base:Un X.fs X.ex X.H₀ H X.s₀.heap s.heap
 loc:∃m,s.heap.Ns X.env.locals m/\∀(i:Nat) (x:Str) (v:V),X.N[i]? = some x->σ[i]? = some (some v)->Vis X.env.scope x->∃u,RelV v u/\Look X.env s.heap m x u
 cell:∀x c,X.env.cells.lookup x=some c->∃v,s.heap.IsCell c v
 free:H X.env.locals=none
 freeC:∀x c,X.env.cells.lookup x=some c->H c=none
 pin:∀p∈X.pn++pins,s.heap.get? p.1=some p.2/\H p.1=none/\p.1≠X.env.locals/\p.1 ∉ X.fs/\∀v,p.2.data≠.cell v
 hok:HOk X.prog X.w H s.heap
 len:σ.length=X.N.length
section
variable {X:Cx} {pins:List (Addr × Obj)} {σ:List (Option V)} {H H':Hp} {s:Shared} {h':Heap}
theorem Cx.Ok.nofr (ok:X.Ok) {b:Addr} {o:Obj} (e:X.base.get? b=some o):b ∉ X.fs:=fun hb=>by
 have:=(ok.funs.mem hb).1
 rw [e] at this;cases this
theorem Inv.bs (I:Inv X pins σ H s):∀b o,X.base.get? b=some o->s.heap.get? b=some o/\H b=none:=fun b o e=>
 ⟨I.base.keep b o (I.ok.bs b o e).1 (I.ok.bs b o e).2 (I.ok.nofr e) (I.ok.noex b o e),I.base.free b o (I.ok.bs b o e).1 (I.ok.bs b o e).2 (I.ok.noex b o e)⟩
theorem Inv.bk (I:Inv X pins σ H s):∀b o,X.base.get? b=some o->s.heap.get? b=some o:=fun b o e=>(I.bs b o e).1
theorem Inv.mod (I:Inv X pins σ H s):Mod X.K X.mg X.base:=I.ok.mod
theorem Inv.kIn (I:Inv X pins σ H s):X.K.In s.heap:=I.ok.mod.kin.keeps I.bk
theorem Inv.lt (I:Inv X pins σ H s):X.env.locals<s.heap.objs.size:=let ⟨_,hn,_⟩:=I.loc;hn.lt
theorem Inv.sz (I:Inv X pins σ H s):X.s₀.heap.objs.size<=s.heap.objs.size:=Nat.le_trans I.ok.above (Nat.le_of_lt I.lt)
theorem Inv.nofs (I:Inv X pins σ H s) {a:Addr} (h:s.heap.objs.size<=a):a ∉ X.fs:=fun hb=>by
 obtain ⟨_,o,ho,_⟩:=I.ok.funs.mem hb
 exact absurd (Nat.lt_of_lt_of_le (Heap.lt_size ho) (Nat.le_trans I.sz h)) (Nat.lt_irrefl _)
theorem Inv.cne (I:Inv X pins σ H s):∀x c,X.env.cells.lookup x=some c->c≠X.env.locals:=fun x c e z=>by
 obtain ⟨v,o,ho,hd⟩:=I.cell x c e
 obtain ⟨m,⟨o',es,ep,ho',hd',_⟩,_⟩:=I.loc
 rw [z,ho'] at ho;cases ho;rw [hd'] at hd;cases hd
theorem Inv.funs (I:Inv X pins σ H s):s.heap.FunFrames X.base X.outer:=by
 have all:∀(l:List Env),(∀b∈frs l,b∈X.fs)->X.s₀.heap.FunFrames X.base l->s.heap.FunFrames X.base l:=by
  intro l
  induction l with
  | nil=>intro _ _;trivial
  | cons env r ih=>
   intro hs hl
   obtain ⟨hk,⟨L,o,hf,hn,ho,hd⟩,hr⟩:=hl
   have hL:L∈X.fs:=hs L (by unfold frs;rw [List.filterMap_cons,hf];exact List.mem_cons_self)
   obtain ⟨sl,e⟩:=I.base.slot L o ho (I.ok.frf L hL) hL fun z=>I.ok.exfs L z hL
   exact ⟨hk,⟨L,_,hf,hn,e,hd⟩,ih (fun b hb=>hs b (by unfold frs;rw [List.filterMap_cons,hf];exact List.mem_cons_of_mem _ hb)) hr⟩
 exact all X.outer (fun _ hb=>hb) I.ok.funs
theorem Inv.stack (I:Inv X pins σ H s):s.heap.FunFrames X.base X.stack:=by
 rcases I.ok.stk with e|⟨e,hf⟩
 ·rw [e];exact I.funs
 ·rw [e]
  obtain ⟨m,hn,_⟩:=I.loc
  refine .cons (by rw [I.ok.kind];decide) hf hn ?_ I.funs
  exact Heap.get?_none_of_le (Nat.le_trans I.ok.bsz I.ok.above)
theorem Inv.stkSub (I:Inv X pins σ H s):∀b∈frs X.stack,b∈X.env.locals::X.fs:=fun b hb=>by
 rcases I.ok.stk with e|⟨e,hf⟩
 ·rw [e] at hb;exact List.mem_cons_of_mem _ hb
 ·rw [e] at hb
  unfold frs at hb
  rw [List.filterMap_cons,hf] at hb
  exact hb
theorem Inv.stkFree (I:Inv X pins σ H s):∀b∈frs X.stack,H b=none:=fun b hb=>by
 rcases List.mem_cons.mp (I.stkSub b hb) with e|hb
 ·rw [e];exact I.free
 ·obtain ⟨_,o,ho,_⟩:=I.ok.funs.mem hb
  exact I.base.free b o ho (I.ok.frf b hb) fun z=>I.ok.exfs b z hb
theorem Inv.step {g':Array GenState} {t':Nat} {d':Drawn} {ch:List Addr} (I:Inv X pins σ H s)
  (hch:∀b∈ch,(b∈X.ex\/X.s₀.heap.objs.size<=b)/\b≠X.env.locals/\(∀x c,X.env.cells.lookup x=some c->c≠b)/\∀p∈X.pn++pins,p.1≠b)
  (keep:∀b o,b≠X.env.locals->b ∉ X.fs->b ∉ ch->s.heap.get? b=some o->H b=none->h'.get? b=some o)
  (slot:∀b o,b≠X.env.locals->b∈X.fs->b ∉ ch->s.heap.get? b=some o->H b=none->∃sl,h'.get? b=some { o with slots:=sl }) (free:∀b o,b ∉ ch->s.heap.get? b=some o->H b=none->H' b=none)
  (there:∀b o,b ∉ ch->s.heap.get? b=some o->∃o',h'.get? b=some o')
  (tups:∀b xs,H b=some (.tup xs)->H' b=some (.tup xs)) (frzs:∀b o u,H b=some (.frz o u)->H' b=some (.frz o u)) (tbls:∀b ps,H b=some (.tbl ps)->∃more,H' b=some (.tbl (ps++more)))
  (ns:∀m,s.heap.Ns X.env.locals m->h'.Ns X.env.locals m) (hok:HOk X.prog X.w H' h') (hg:AllBare g') :
  Inv X pins σ H' { s with heap:=h',gens:=g',drawn:=d',toks:=t' }:=by
 have neL:∀b o,X.s₀.heap.get? b=some o->b≠X.env.locals:=fun b o e=>Nat.ne_of_lt (Nat.lt_of_lt_of_le (Heap.lt_size e) I.ok.above)
 have neC:∀b o,X.s₀.heap.get? b=some o->b ∉ X.ex->b ∉ ch:=fun b o e hx hb=>by
  rcases (hch b hb).1 with z|z
  ·exact hx z
  ·exact absurd (Nat.lt_of_lt_of_le (Heap.lt_size e) z) (Nat.lt_irrefl _)
 have cellK:∀x c,X.env.cells.lookup x=some c->∀v,s.heap.IsCell c v->h'.IsCell c v:=fun x c e v zq=>by
  obtain ⟨o,ho,hd⟩:=zq
  have nch:c ∉ ch:=fun z=>(hch c z).2.2.1 x c e rfl
  by_cases hc:c∈X.fs
  ·obtain ⟨sl,q⟩:=slot c o (I.cne x c e) hc nch ho (I.freeC x c e)
   exact ⟨_,q,hd⟩
  ·exact ⟨o,keep c o (I.cne x c e) hc nch ho (I.freeC x c e),hd⟩
 refine ⟨I.ok,I.os,hg,⟨fun b o e n hb hx=>?_,fun b o e n hb hx=>?_,fun b o e n hx=>?_,fun b o e hx=>?_,fun b xs e=>tups b xs (I.base.tups b xs e),fun b o xs e=>frzs b o xs (I.base.frzs b o xs e),fun b ps e=>?_⟩,?_,fun x c e=>?_,?_,fun x c e=>?_,fun p hp=>?_,hok,I.len⟩
 ·exact keep b o (neL b o e) hb (neC b o e hx) (I.base.keep b o e n hb hx) (I.base.free b o e n hx)
 ·obtain ⟨sl,e1⟩:=I.base.slot b o e n hb hx
  obtain ⟨sl',e2⟩:=slot b _ (neL b o e) hb (neC b o e hx) e1 (I.base.free b o e n hx)
  exact ⟨sl',e2⟩
 ·obtain ⟨o',e1⟩:=I.base.there b o e hx
  exact free b o' (neC b o e hx) e1 (I.base.free b o e n hx)
 ·obtain ⟨o',e1⟩:=I.base.there b o e hx
  exact there b o' (neC b o e hx) e1
 ·obtain ⟨m1,e1⟩:=I.base.tbls b ps e
  obtain ⟨m2,e2⟩:=tbls b _ e1
  exact ⟨m1++m2,by rw [e2,Array.append_assoc]⟩
 ·obtain ⟨m,hn,hl⟩:=I.loc
  refine ⟨m,ns m hn,fun i x v e1 e2 e3=>?_⟩
  obtain ⟨u,r,l⟩:=hl i x v e1 e2 e3
  refine ⟨u,r,?_⟩
  rcases l with l|⟨k,c,e,z⟩
  ·exact .inl l
  ·exact .inr ⟨k,c,e,cellK x c e _ z⟩
 ·obtain ⟨v,z⟩:=I.cell x c e
  exact ⟨v,cellK x c e v z⟩
 ·obtain ⟨m,⟨o,_,_,ho,_⟩,_⟩:=I.loc
  exact free _ o (fun z=>(hch _ z).2.1 rfl) ho I.free
 ·obtain ⟨v,o,ho,hd⟩:=I.cell x c e
  exact free c o (fun z=>(hch c z).2.2.1 x c e rfl) ho (I.freeC x c e)
 ·obtain ⟨e,n,ne,nf,d⟩:=I.pin p hp
  have nch:p.1 ∉ ch:=fun z=>(hch p.1 z).2.2.2 p hp rfl
  exact ⟨keep p.1 p.2 ne nf nch e n,free p.1 p.2 nch e n,ne,nf,d⟩
theorem Inv.un {t':Nat} (I:Inv X pins σ H s) (u:Un X.fs [] H H' s.heap h') (hok:HOk X.prog X.w H' h'):Inv X pins σ H' { s with heap:=h',toks:=t' }:=by
 obtain ⟨m,⟨o,es,ep,ho,r⟩,_⟩:=id I.loc
 obtain ⟨sl,hL⟩:=u.any ho I.free (by simp)
 exact I.step (g':=s.gens) (d':=s.drawn) (ch:=[]) (fun _ z=>nomatch z) (fun b o _ hb _ e n=>u.keep b o e n hb (by simp)) (fun b o _ hb _ e n=>u.slot b o e n hb (by simp)) (fun b o _ e n=>u.free b o e n (by simp)) (fun b o _ e=>u.there b o e (by simp)) u.tups u.frzs u.tbls (fun m' hm=>by
  obtain ⟨o',es',ep',ho',r'⟩:=hm
  rw [ho] at ho';cases ho'
  exact ⟨_,es',ep',hL,r'⟩) hok I.bare
theorem Inv.call {g':Array GenState} {t':Nat} {d':Drawn} {ch:List Addr} (I:Inv X pins σ H s) (u:Un (frs X.stack) ch H H' s.heap h') (hok:HOk X.prog X.w H' h') (hg:AllBare g')
  (hch:∀b∈ch,(b∈X.ex\/X.s₀.heap.objs.size<=b)/\b≠X.env.locals/\(∀x c,X.env.cells.lookup x=some c->c≠b)/\∀p∈X.pn++pins,p.1≠b) :
  Inv X pins σ H' { s with heap:=h',gens:=g',drawn:=d',toks:=t' }:=by
 obtain ⟨m,⟨o,es,ep,ho,r⟩,_⟩:=id I.loc
 obtain ⟨sl,hL⟩:=u.any ho I.free fun z=>(hch _ z).2.1 rfl
 exact I.step (ch:=ch) hch (fun b o hL hb hc e n=>u.keep b o e n (fun z=>(List.mem_cons.mp (I.stkSub b z)).elim hL hb) hc) (fun b o _ _ hc e n=>u.any e n hc) (fun b o hc e n=>u.free b o e n hc) (fun b o hc e=>u.there b o e hc) u.tups u.frzs u.tbls (fun m' hm=>by
  obtain ⟨o',es',ep',ho',r'⟩:=hm
  rw [ho] at ho';cases ho'
  exact ⟨_,es',ep',hL,r'⟩) hok hg
theorem Inv.turned {t':Nat} {it:Addr} (I:Inv X pins σ H s) (k:∀b o,b≠it->s.heap.get? b=some o->h'.get? b=some o) (hn:H it=none) (hL:it≠X.env.locals)
  (h1:it∈X.ex\/X.s₀.heap.objs.size<=it) (h2:∀x c,X.env.cells.lookup x=some c->c≠it) (h3:∀p∈X.pn++pins,p.1≠it):Inv X pins σ H { s with heap:=h',toks:=t' }:=by
 have nit:∀b u,H b=some u->b≠it:=fun b u e z=>by rw [z,hn] at e;cases e
 refine I.step (g':=s.gens) (d':=s.drawn) (ch:=[it]) (fun b hb=>?_) (fun b o _ _ hc e _=>k b o (fun z=>hc (by simp [z])) e) (fun b o _ _ hc e _=>⟨o.slots,k b o (fun z=>hc (by simp [z])) e⟩) (fun _ _ _ _ n=>n)
  (fun b o hc e=>⟨o,k b o (fun z=>hc (by simp [z])) e⟩) (fun _ _ e=>e) (fun _ _ _ e=>e) (fun b ps e=>⟨#[],by rw [e];simp⟩) (fun m hm=>?_) (fun b u e=>?_) I.bare
 ·have e:b=it:=by simpa using hb
  subst e
  exact ⟨h1,hL,h2,h3⟩
 ·obtain ⟨o,es,ep,ho,r⟩:=hm
  exact ⟨o,es,ep,k _ o (Ne.symm hL) ho,r⟩
 ·refine (I.hok b u e).stay (fun c v hc q=>k c v ?_ q) (fun _ q=>q) fun _ _ q=>q
  rcases hc with z|z
  ·rw [z];exact nit b u e
  ·exact nit c _ z
theorem Inv.tok (I:Inv X pins σ H s) (t:Nat):Inv X pins σ H { s with toks:=t }:=I.un (h':=s.heap) (t':=t) Un.refl I.hok
theorem Inv.kept {t':Nat} (I:Inv X pins σ H s) (k:∀b u,s.heap.get? b=some u->h'.get? b=some u):Inv X pins σ H { s with heap:=h',toks:=t' }:=I.un (Un.kept k) (I.hok.kept k)
theorem Inv.laid {a:Addr} {o:HO} {t':Nat} (I:Inv X pins σ H s) (k:∀b u,s.heap.get? b=some u->h'.get? b=some u) (hp:s.heap.objs.size<=a) (new:ObjOk X.prog X.w (upd H a o) h' a o) :
  Inv X pins σ (upd H a o) { s with heap:=h',toks:=t' }:=I.un (Un.laid k hp (I.hok.fresh hp)) (I.hok.laid k hp new)
theorem Inv.write {x e:Addr} {o:HO} {t':Nat} (I:Inv X pins σ H s) (mu:Mut (H x)) (he:e=x\/H e=some (.own x)) (k:∀b u,b≠e->s.heap.get? b=some u->h'.get? b=some u) (heo:∃u,h'.get? e=some u)
  (new:ObjOk X.prog X.w (upd H x o) h' x o):Inv X pins σ (upd H x o) { s with heap:=h',toks:=t' }:=I.un (Un.write mu he k heo) (I.hok.write mu he k heo new)
theorem Inv.pins_of {pins':List (Addr × Obj)} (I:Inv X pins σ H s) (h:∀p∈pins',s.heap.get? p.1=some p.2/\H p.1=none/\p.1≠X.env.locals/\p.1 ∉ X.fs/\∀v,p.2.data≠.cell v):Inv X pins' σ H s:=
 ⟨I.ok,I.os,I.bare,I.base,I.loc,I.cell,I.free,I.freeC,fun p hp=>(List.mem_append.mp hp).elim (fun z=>I.pin p (List.mem_append_left _ z)) (h p),I.hok,I.len⟩
theorem nodup_ix {N:List Str} (hN:N.Nodup) {i j:Nat} {x:Str} (a:N[i]? = some x) (b:N[j]? = some x):i=j:=by
 obtain ⟨h1,e1⟩:=List.getElem?_eq_some_iff.mp a
 obtain ⟨h2,e2⟩:=List.getElem?_eq_some_iff.mp b
 exact (List.getElem_inj hN).mp (e1.trans e2.symm)
theorem store_ok2 {M:Model} {A:Around} {E:Value->Shared->Prop} {i:Nat} {x:Str} {v:V} {u:Value} {Q:Unit->Shared->Prop} (I:Inv X pins σ H s) (hN:X.N.Nodup) (hi:X.N[i]? = some x) (hx:Loc X.env.scope x) (r:RelV v u)
  (h:∀s',Inv X pins (σ.set i (some v)) H s'->(∃a,Heap.SameBut a s.heap s'.heap/\(a=X.env.locals\/X.env.cells.lookup x=some a))->Q () s') (hf:X.fn x=true\/X.env.scope.names.lookup x=some .local:=by first|exact .inl rfl|exact .inr rfl|assumption):wpAny M A (storeName X.env x u) Q E s:=by
 obtain ⟨m,hn,hl⟩:=id I.loc
 have hcls:(X.env.scope.kind == .class || (X.env.scope.kind == .module && X.env.locals != X.env.globals))=false:=by rw [I.ok.kind];rfl
 have hiσ:i<σ.length:=by rw [I.len];exact (List.getElem?_eq_some_iff.mp hi).1
 have cne:=I.cne
 have tracked:∀{a:Addr} {h':Heap},(∃o,s.heap.get? a=some o/\H a=none)->Heap.SameBut a s.heap h'->HOk X.prog X.w H h':=fun {a h'} ha hs b ob e=>by
  obtain ⟨_,_,hfree⟩:=ha
  refine (I.hok b ob e).stay (fun c w' hc q=>(hs.2 c ?_).trans q) (fun _ q=>q) fun _ _ q=>q
  rintro rfl
  rcases hc with rfl|hc
  ·rw [hfree] at e;cases e
  ·rw [hfree] at hc;cases hc
 rcases hx with hk|hk
 ·refine wpAny_storeName_local hk hn (fun h' hn' hs=>?_) hcls
  obtain ⟨oL,_,_,hoL,_⟩:=id hn
  refine h _ ⟨I.ok,I.os,I.bare,⟨fun b o e n hb hx=>?_,fun b o e n hb hx=>?_,I.base.free,fun b o e hx=>?_,I.base.tups,I.base.frzs,I.base.tbls⟩,⟨_,hn',fun j y v' e1 e2 e3=>?_⟩,fun y c e=>?_,I.free,I.freeC,fun p hp=>?_,tracked ⟨oL,hoL,I.free⟩ hs,by simpa using I.len⟩ ⟨_,hs,.inl rfl⟩
  ·exact (hs.2 b (Nat.ne_of_lt (Nat.lt_of_lt_of_le (Heap.lt_size e) I.ok.above))).trans (I.base.keep b o e n hb hx)
  ·obtain ⟨sl,e1⟩:=I.base.slot b o e n hb hx
   exact ⟨sl,(hs.2 b (Nat.ne_of_lt (Nat.lt_of_lt_of_le (Heap.lt_size e) I.ok.above))).trans e1⟩
  ·obtain ⟨o',e1⟩:=I.base.there b o e hx
   exact ⟨o',(hs.2 b (Nat.ne_of_lt (Nat.lt_of_lt_of_le (Heap.lt_size e) I.ok.above))).trans e1⟩
  ·by_cases hj:j=i
   ·subst hj
    rw [hi] at e1;cases e1
    rw [List.getElem?_set_self hiσ] at e2
    cases e2
    exact ⟨u,r,.inl ⟨hk,by simp⟩⟩
   ·rw [List.getElem?_set_ne (Ne.symm hj)] at e2
    obtain ⟨u',r',q⟩:=hl j y v' e1 e2 e3
    refine ⟨u',r',?_⟩
    rcases q with ⟨k,e⟩|⟨k,c,e,z⟩
    ·refine .inl ⟨k,?_⟩
     have:y≠x:=fun e=>hj (nodup_ix hN e1 (e▸hi))
     simp [this,e]
    ·exact .inr ⟨k,c,e,z.sameBut hs (cne y c e)⟩
  ·obtain ⟨w',z⟩:=I.cell y c e
   exact ⟨w',z.sameBut hs (cne y c e)⟩
  ·obtain ⟨e,n,ne,nf,d⟩:=I.pin p hp
   exact ⟨(hs.2 p.1 ne).trans e,n,ne,nf,d⟩
 ·have hfn:X.fn x=true:=by
   rcases hf with z|z
   ·exact z
   ·rw [z] at hk;cases hk
  obtain ⟨c,hc⟩:=I.ok.has x (.inl hk)
  obtain ⟨w',z⟩:=I.cell x c hc
  refine wpAny_storeName_cell I.ok.kind hk hc z (fun h' hc' hs=>?_)
  obtain ⟨oc,hoc,hocd⟩:=id z
  refine h { s with heap:=h' } ⟨I.ok,I.os,I.bare,⟨fun b o e n hb hx=>?_,fun b o e n hb hx=>?_,I.base.free,fun b o e hx=>?_,I.base.tups,I.base.frzs,I.base.tbls⟩,⟨m,hn.sameBut hs (Ne.symm (cne x c hc)),fun j y v' e1 e2 e3=>?_⟩,fun y c' e=>?_,I.free,I.freeC,fun p hp=>?_,tracked ⟨oc,hoc,I.freeC x c hc⟩ hs,by simpa using I.len⟩ ⟨c,hs,.inr hc⟩
  ·exact (hs.2 b (Nat.ne_of_lt (Nat.lt_of_lt_of_le (Heap.lt_size e) (I.ok.cab x c hfn hc)))).trans (I.base.keep b o e n hb hx)
  ·obtain ⟨sl,e1⟩:=I.base.slot b o e n hb hx
   exact ⟨sl,(hs.2 b (Nat.ne_of_lt (Nat.lt_of_lt_of_le (Heap.lt_size e) (I.ok.cab x c hfn hc)))).trans e1⟩
  ·obtain ⟨o',e1⟩:=I.base.there b o e hx
   exact ⟨o',(hs.2 b (Nat.ne_of_lt (Nat.lt_of_lt_of_le (Heap.lt_size e) (I.ok.cab x c hfn hc)))).trans e1⟩
  ·by_cases hj:j=i
   ·subst hj
    rw [hi] at e1;cases e1
    rw [List.getElem?_set_self hiσ] at e2
    cases e2
    exact ⟨u,r,.inr ⟨.inl hk,c,hc,hc'⟩⟩
   ·rw [List.getElem?_set_ne (Ne.symm hj)] at e2
    obtain ⟨u',r',q⟩:=hl j y v' e1 e2 e3
    refine ⟨u',r',?_⟩
    rcases q with q|⟨k,c',e,z'⟩
    ·exact .inl q
    ·refine .inr ⟨k,c',e,z'.sameBut hs ?_⟩
     rintro rfl
     exact hj (nodup_ix hN e1 (I.ok.inj _ _ _ e hc▸hi))
  ·by_cases hcc:c'=c
   ·subst hcc;exact ⟨_,hc'⟩
   ·obtain ⟨w2,z2⟩:=I.cell y c' e
    exact ⟨w2,z2.sameBut hs hcc⟩
  ·obtain ⟨e,n,ne,nf,d⟩:=I.pin p hp
   refine ⟨(hs.2 p.1 ?_).trans e,n,ne,nf,d⟩
   intro q
   rw [q,hoc] at e
   have q':oc=p.2:=Option.some.inj e
   exact d w' (by rw [<-q'];exact hocd)
theorem store_ok {M:Model} {A:Around} {E:Value->Shared->Prop} {i:Nat} {x:Str} {v:V} {u:Value} {Q:Unit->Shared->Prop} (I:Inv X pins σ H s) (hN:X.N.Nodup) (hi:X.N[i]? = some x) (hx:Loc X.env.scope x) (r:RelV v u)
  (h:∀s',Inv X pins (σ.set i (some v)) H s'->Q () s') (hf:X.fn x=true\/X.env.scope.names.lookup x=some .local:=by first|exact .inl rfl|exact .inr rfl|assumption):wpAny M A (storeName X.env x u) Q E s:=
 store_ok2 I hN hi hx r (fun s' I' _=>h s' I') hf
theorem Inv.call' {s':Shared} {ch:List Addr} (I:Inv X pins σ H s) (ho:s'.os=s.os) (u:Un (frs X.stack) ch H H' s.heap s'.heap) (hok:HOk X.prog X.w H' s'.heap) (hg:AllBare s'.gens)
  (hch:∀b∈ch,(b∈X.ex\/X.s₀.heap.objs.size<=b)/\b≠X.env.locals/\(∀x c,X.env.cells.lookup x=some c->c≠b)/\∀p∈X.pn++pins,p.1≠b):Inv X pins σ H' s':=by
 obtain ⟨h',g',d',t',o'⟩:=s'
 have e:o'=s.os:=ho
 subst e
 exact I.call (g':=g') (t':=t') (d':=d') u hok hg hch
end
abbrev XK:=Value->Option Addr->Hp->Prop
abbrev St:=List (Option V)
abbrev VK:=V->Hp->Prop
abbrev TE:=St->Hp->VK->Prop
abbrev TT:=St->Hp->(Bool->Hp->Prop)->Prop
abbrev TA:=St->Hp->(List V->Hp->Prop)->Prop
structure Ends where
 nx:St->Hp->Prop
 rt:VK
 bk:St->Hp->Prop:=fun _ _=>False
 ct:St->Hp->Prop:=fun _ _=>False
abbrev TS:=Ends->St->Hp->Prop
def EP (X:Cx) (pins:List (Addr × Obj)) (σ:St) (Q:VK) (u:Value) (s':Shared):Prop:=∃v H',Inv X pins σ H' s'/\RelV v u/\Q v H'
def TP (X:Cx) (pins:List (Addr × Obj)) (σ:St) (Q:Bool->Hp->Prop) (b:Bool) (s':Shared):Prop:=∃H',Inv X pins σ H' s'/\Q b H'
def AP (X:Cx) (pins:List (Addr × Obj)) (σ:St) (Q:List V->Hp->Prop) (us:List Value) (s':Shared):Prop:=∃vs H',Inv X pins σ H' s'/\Vals vs us/\Q vs H'
def SP (X:Cx) (pins:List (Addr × Obj)) (D:Ends) (f:Flow) (s':Shared):Prop:=
 match f with
 | .next=>∃σ' H',Inv X pins σ' H' s'/\D.nx σ' H'
 | .brk=>∃σ' H',Inv X pins σ' H' s'/\D.bk σ' H'
 | .cont=>∃σ' H',Inv X pins σ' H' s'/\D.ct σ' H'
 | .ret u=>∃v σ' H',Inv X pins σ' H' s'/\RelV v u/\D.rt v H'
def PE (X:Cx) (e:Expr) (t:TE):Prop:=
 ∀(pins:List (Addr × Obj)) (s:Shared) (σ:St) (H:Hp) (Q:VK),Inv X pins σ H s->t σ H Q->wpAny (model X.prog X.w) X.A (eval e X.env) (EP X pins σ Q) X.xe s
def PT (X:Cx) (e:Expr) (t:TT):Prop:=
 ∀(pins:List (Addr × Obj)) (s:Shared) (σ:St) (H:Hp) (Q:Bool->Hp->Prop),Inv X pins σ H s->t σ H Q->wpAny (model X.prog X.w) X.A (isTrue e X.env (eval e X.env)) (TP X pins σ Q) X.xe s
def PW (X:Cx) (e:Expr) (t:TT):Prop:=
 ∀(whole:Sem Value) (pins:List (Addr × Obj)) (s:Shared) (σ:St) (H:Hp) (Q:Bool->Hp->Prop),Inv X pins σ H s->t σ H Q->wpAny (model X.prog X.w) X.A (isTrue e X.env whole) (TP X pins σ Q) X.xe s
theorem PW.pt {X:Cx} {e:Expr} {t:TT} (h:PW X e t):PT X e t:=h _
def PA (X:Cx) (es:List Expr) (t:TA):Prop:=
 ∀(pos:Pos) (pins:List (Addr × Obj)) (s:Shared) (σ:St) (H:Hp) (Q:List V->Hp->Prop),Inv X pins σ H s->t σ H Q->wpAny (model X.prog X.w) X.A (spliced (backTo pos (starEach es X.env))) (AP X pins σ Q) X.xe s
def PS (X:Cx) (st:Stmt) (t:TS):Prop:=
 ∀(pins:List (Addr × Obj)) (s:Shared) (σ:St) (H:Hp) (D:Ends),Inv X pins σ H s->t D σ H->wpAny (model X.prog X.w) X.A (exec st X.env) (SP X pins D) X.xe s
def PSs (X:Cx) (st:List Stmt) (t:TS):Prop:=
 ∀(pins:List (Addr × Obj)) (s:Shared) (σ:St) (H:Hp) (D:Ends),Inv X pins σ H s->t D σ H->wpAny (model X.prog X.w) X.A (execs st X.env) (SP X pins D) X.xe s
theorem thn {α:Type} {t:Sem α} {Q Q':α->Shared->Prop} {M:Model} {A:Around} {E:Value->Shared->Prop} {s:Shared} (h:wpAny M A t Q E s) (hQ:∀a s,Q a s->Q' a s):wpAny M A t Q' E s:=wpAny_mono h hQ fun _ _ x=>x
section
variable {X:Cx}
theorem bin {a b:Expr} {ta tb:TE} (ha:PE X a ta) (hb:PE X b tb) {pins:List (Addr × Obj)} {s:Shared} {σ:St} {H:Hp} {R:V->V->Hp->Prop} (I:Inv X pins σ H s) (h:ta σ H fun x H1=>tb σ H1 fun y H2=>R x y H2)
  {α:Type} {Q:α->Shared->Prop} {f:Value->Value->Sem α}
  (hf:∀v u s2 x y H2,Inv X pins σ H2 s2->RelV x v->RelV y u->R x y H2->wpAny (model X.prog X.w) X.A (f v u) Q X.xe s2) :
  wpAny (model X.prog X.w) X.A (eval a X.env) (fun v s₁=>wpAny (model X.prog X.w) X.A (eval b X.env) (fun u s₂=>wpAny (model X.prog X.w) X.A (f v u) Q X.xe s₂) X.xe s₁) X.xe s:=by
 refine thn (ha pins s σ H _ I h) fun v s1 ⟨x,H1,I1,r1,q1⟩=>?_
 refine thn (hb pins s1 σ H1 _ I1 q1) fun u s2 ⟨y,H2,I2,r2,q2⟩=>?_
 exact hf v u s2 x y H2 I2 r1 r2 q2
def tVar (i:Nat):TE:=fun σ H Q=>∃v,σ[i]? = some (some v)/\Q v H
def tC (v:V):TE:=fun _ H Q=>Q v H
theorem pe_var {i:Nat} {x:Str} {pos:Pos} (hN:X.N[i]? = some x) (hv:Vis X.env.scope x) (hd:(x == ("__debug__":Str))=false:=by decide) (hcd:(x == ("__classdict__":Str))=false:=by decide):PE X (.Name x pos) (tVar i):=by
 intro pins s σ H Q I h
 obtain ⟨v,e,h⟩:=h
 obtain ⟨m,hn,hl⟩:=I.loc
 obtain ⟨u,r,l⟩:=hl i x v hN e hv
 have fin:EP X pins σ Q u s:=⟨v,H,I,r,h⟩
 rcases l with ⟨hk,hm⟩|⟨hk,c,hc,hcell⟩
 ·exact wpAny_Name (wpAny_loadName_local I.ok.kind hk hn hm fin) hd
 ·rcases hk with hk|hk
  ·exact wpAny_Name (wpAny_loadName_cell I.ok.kind hk hc hcell fin) hd
  ·exact wpAny_Name (wpAny_loadName_free I.ok.kind hk hc hcell fin hcd) hd
theorem pe_int {i j pos}:PE X (.Constant (.int i) j pos) (tC (.int i)):=fun _ _ _ H _ I h=>wpAny_Constant_int ⟨.int i,H,I.tok _,⟨_,rfl⟩,h⟩
theorem pe_bl {b j pos}:PE X (.Constant (.bool b) j pos) (tC (.bl b)):=fun _ _ _ H _ I h=>Constant_bool ⟨.bl b,H,I,rfl,h⟩
theorem pe_non {j pos}:PE X (.Constant .none j pos) (tC .non):=fun _ _ _ H _ I h=>Constant_none ⟨.non,H,I,rfl,h⟩
theorem pe_str {x j pos}:PE X (.Constant (.str x) j pos) (tC (.str x)):=fun _ _ _ H _ I h=>Calls.Constant_str ⟨.str x,H,I.tok _,⟨_,rfl⟩,h⟩
def Gl (X:Cx) (x:Str):Prop:=X.env.kindOf x=some .globalImplicit
theorem ld_glob {E:Value->Shared->Prop} {pins:List (Addr × Obj)} {s:Shared} {σ:St} {H:Hp} {x:Str} {u:Value} {pos:Pos} {Q:Value->Shared->Prop} (I:Inv X pins σ H s) (hg:Gl X x) (hm:X.mg x=some u) (h:Q u s)
  (hd:(x == ("__debug__":Str))=false:=by decide):wpAny (model X.prog X.w) X.A (eval (.Name x pos) X.env) Q E s:=
 Calls.Name_function_global I.ok.kind hg (Calls.loadGlobal_global (by rw [I.ok.glob];exact I.mod.glob.keeps I.bk) hm h) hd
theorem ld_blt {E:Value->Shared->Prop} {pins:List (Addr × Obj)} {s:Shared} {σ:St} {H:Hp} {x:Str} {u:Value} {pos:Pos} {Q:Value->Shared->Prop} (I:Inv X pins σ H s) (hg:Gl X x) (hm:X.mg x=none) (hv:bootBuiltins x=some u) (h:Q u s)
  (hn:x≠"__name__":=by decide) (hd:(x == ("__debug__":Str))=false:=by decide):wpAny (model X.prog X.w) X.A (eval (.Name x pos) X.env) Q E s:=by
 obtain ⟨mb,h1,h2⟩:=I.mod.blt
 exact Calls.Name_function_global I.ok.kind hg (Calls.loadGlobal_builtin (by rw [I.ok.glob];exact I.mod.glob.keeps I.bk) hm (by rw [I.ok.blt];exact h1.keeps I.bk) ((h2 x hn).trans hv) h) hd
theorem pe_glob {x:Str} {v:V} {u:Value} {pos:Pos} (hg:Gl X x) (hm:X.mg x=some u) (r:RelV v u) (hd:(x == ("__debug__":Str))=false:=by decide):PE X (.Name x pos) (tC v):=
 fun _ _ _ H _ I h=>ld_glob I hg hm ⟨v,H,I,r,h⟩ hd
theorem pe_bltn {x:Str} {v:V} {u:Value} {pos:Pos} (hg:Gl X x) (hm:X.mg x=none) (hv:bootBuiltins x=some u) (r:RelV v u) (hn:x≠"__name__":=by decide) (hd:(x == ("__debug__":Str))=false:=by decide):PE X (.Name x pos) (tC v):=
 fun _ _ _ H _ I h=>ld_blt I hg hm hv ⟨v,H,I,r,h⟩ hn hd
variable {a b:Expr} {ta tb:TE} {pos:Pos}
def PC (X:Cx) (op:CmpOp) (a b:Expr) (t:TE):Prop:=
 ∀(pins:List (Addr × Obj)) (s:Shared) (σ:St) (H:Hp) (Q:VK),Inv X pins σ H s->t σ H Q->
  wpAny (model X.prog X.w) X.A (eval a X.env) (fun v s₁=>wpAny (model X.prog X.w) X.A (eval b X.env) (fun u s₂=>wpAny (model X.prog X.w) X.A (compareOp op v u) (EP X pins σ Q) X.xe s₂) X.xe s₁) X.xe s
theorem nobehind (b:Expr) {op:CmpOp} (h:op≠.In) (h2:op≠.NotIn):behindInMarks op b=false:=by
 have e1:(op == CmpOp.In)=false:=by cases op<;>first|rfl|exact absurd rfl h
 have e2:(op == CmpOp.NotIn)=false:=by cases op<;>first|rfl|exact absurd rfl h2
 cases b<;>simp [behindInMarks,e1,e2]
def tIsN (ta:TE):TE:=fun σ H Q=>ta σ H fun x H1=>Q (.bl (decide (x=.non))) H1
def tNotN (ta:TE):TE:=fun σ H Q=>ta σ H fun x H1=>Q (.bl (!decide (x=.non))) H1
theorem RelV.none_iff {x:V} {v:Value} (r:RelV x v):(v == Value.none)=decide (x=.non):=by
 cases x with
 | non=>cases r;rfl
 | bl _=>cases r;rfl
 | int _=>obtain ⟨t,rfl⟩:=r;rfl
 | str _=>obtain ⟨t,rfl⟩:=r;rfl
 | byt _=>obtain ⟨t,rfl⟩:=r;rfl
 | flt _=>obtain ⟨t,rfl⟩:=r;rfl
 | ref _=>cases r;rfl
 | ty _=>cases r;rfl
theorem pc_isN {j pos'} (ha:PE X a ta):PC X .Is a (.Constant .none j pos') (tIsN ta):=by
 intro pins s σ H Q I h
 refine thn (ha pins s σ H _ I h) fun v s1 ⟨x,H1,I1,r1,q1⟩=>?_
 exact Constant_none (is_none_gen ⟨.bl _,H1,I1,by rw [r1.none_iff];rfl,q1⟩)
theorem pc_notN {j pos'} (ha:PE X a ta):PC X .IsNot a (.Constant .none j pos') (tNotN ta):=by
 intro pins s σ H Q I h
 refine thn (ha pins s σ H _ I h) fun v s1 ⟨x,H1,I1,r1,q1⟩=>?_
 exact Constant_none (isnot_none_gen ⟨.bl _,H1,I1,by rw [r1.none_iff];rfl,q1⟩)
def tB (t:TE):TT:=fun σ H Q=>t σ H fun x H1=>∃c,x=.bl c/\Q c H1
theorem pe_cmp {op:CmpOp} {t:TE} (h:PC X op a b t) (h1:behindInMarks op b=false:=by first|exact nobehind _ (by decide) (by decide)|rfl):PE X (.Compare a [op] [b] pos) t:=fun pins s σ H Q I hw=>wpAny_Compare1 (h pins s σ H Q I hw) h1
theorem pt_cmp {op:CmpOp} {t:TE} (h:PC X op a b t) (h1:behindInMarks op b=false:=by first|exact nobehind _ (by decide) (by decide)|rfl):PT X (.Compare a [op] [b] pos) (tB t):=by
 intro pins s σ H Q I hw
 refine wpAny_isTrue_Compare1 (thn (h pins s σ H _ I hw) fun v s1 h1=>thn h1 fun u s2 h2=>thn h2 fun c s3 ⟨x,H1,I1,r1,q1⟩=>?_) h1
 obtain ⟨d,rfl,q⟩:=q1
 cases r1
 exact wpAny_truthy_bool ⟨H1,I1,q⟩
theorem pt_val {e : Expr} {t : TE} (h : PE X e t) (he : ∀ whole, isTrue e X.env whole = (do let v ← whole; standAt e.pos; holding [v] (truthy v)) := by intro _; rfl) : PT X e (tB t) := by
  intro pins s σ H Q I hw
  refine isTrue_plain (thn (h pins s σ H _ I hw) fun v s1 ⟨x, H1, I1, r1, q1⟩ => ?_) (he _)
  obtain ⟨d, rfl, q⟩ := q1
  cases r1
  exact wpAny_truthy_bool ⟨H1, I1, q⟩
variable {tA tB':TT} {rest:List Expr}
def tAnd (t u:TT):TT:=fun σ H Q=>t σ H fun c H1=>if c=true then u σ H1 Q else Q false H1
def tOr (t u:TT):TT:=fun σ H Q=>t σ H fun c H1=>if c=true then Q true H1 else u σ H1 Q
def tNot (t:TT):TT:=fun σ H Q=>t σ H fun c H1=>Q (!c) H1
theorem pw_and1 (ha:PT X a tA):PW X (.BoolOp .And [a] pos) tA:=by
 intro wh pins s σ H Q I h
 refine isTrue_and (thn (ha pins s σ H Q I h) fun c s1 e=>?_)
 cases c with
 | true=>exact isTrue_and_nil e
 | false=>exact e
theorem pw_or1 (ha:PT X a tA):PW X (.BoolOp .Or [a] pos) tA:=by
 intro wh pins s σ H Q I h
 refine isTrue_or (thn (ha pins s σ H Q I h) fun c s1 e=>?_)
 cases c with
 | false=>exact isTrue_or_nil e
 | true=>exact e
theorem pw_and (ha:PT X a tA) (hb:PW X (.BoolOp .And (b::rest) pos) tB'):PW X (.BoolOp .And (a::b::rest) pos) (tAnd tA tB'):=by
 intro wh pins s σ H Q I h
 refine isTrue_and (thn (ha pins s σ H _ I h) fun c s1 ⟨H1,I1,q1⟩=>?_)
 cases c with
 | true=>exact hb wh pins s1 σ H1 Q I1 q1
 | false=>exact ⟨H1,I1,q1⟩
theorem pw_or (ha:PT X a tA) (hb:PW X (.BoolOp .Or (b::rest) pos) tB'):PW X (.BoolOp .Or (a::b::rest) pos) (tOr tA tB'):=by
 intro wh pins s σ H Q I h
 refine isTrue_or (thn (ha pins s σ H _ I h) fun c s1 ⟨H1,I1,q1⟩=>?_)
 cases c with
 | true=>exact ⟨H1,I1,q1⟩
 | false=>exact hb wh pins s1 σ H1 Q I1 q1
theorem pt_not (ha:PT X a tA):PT X (.UnaryOp .Not a pos) (tNot tA):=by
 intro pins s σ H Q I h
 exact isTrue_not (ha pins s σ H (fun c H1=>Q (!c) H1) I h)
def tAndV (ta tb:TE):TE:=fun σ H Q=>ta σ H fun x H1=>∃c,x=.bl c/\if c=true then tb σ H1 Q else Q (.bl false) H1
def tNotV (ta:TE):TE:=fun σ H Q=>ta σ H fun x H1=>∃c,x=.bl c/\Q (.bl (!c)) H1
theorem pe_one {op} {t:TE} (h:PE X a t):PE X (.BoolOp op [a] pos) t:=fun pins s σ H Q I hw=>BoolOp_one (h pins s σ H Q I hw)
theorem pe_and (ha:PE X a ta) (hb:PE X (.BoolOp .And (b::rest) pos) tb):PE X (.BoolOp .And (a::b::rest) pos) (tAndV ta tb):=by
 intro pins s σ H Q I h
 refine BoolOp_and (thn (ha pins s σ H _ I h) fun v s1 ⟨x,H1,I1,r1,q1⟩=>?_)
 obtain ⟨c,rfl,q1⟩:=q1
 cases r1
 refine wpAny_truthy_bool ?_
 cases c with
 | true=>exact hb pins s1 σ H1 Q I1 q1
 | false=>exact ⟨.bl false,H1,I1,rfl,q1⟩
theorem pe_not (ha:PE X a ta):PE X (.UnaryOp .Not a pos) (tNotV ta):=by
 intro pins s σ H Q I h
 refine UnaryOp_ (thn (ha pins s σ H _ I h) fun v s1 ⟨x,H1,I1,r1,q1⟩=>?_)
 obtain ⟨c,rfl,q1⟩:=q1
 cases r1
 exact not_of (wpAny_truthy_bool ⟨.bl (!c),H1,I1,rfl,q1⟩)
def tIf (t:TT) (ta tb:TE):TE:=fun σ H Q=>t σ H fun c H1=>if c=true then ta σ H1 Q else tb σ H1 Q
theorem pe_ifExp {c:Expr} (hc:PT X c tA) (ha:PE X a ta) (hb:PE X b tb):PE X (.IfExp c a b pos) (tIf tA ta tb):=by
 intro pins s σ H Q I h
 refine wpAny_IfExp (thn (hc pins s σ H _ I h) fun d s1 ⟨H1,I1,q1⟩=>?_)
 cases d with
 | true=>exact ha pins s1 σ H1 Q I1 q1
 | false=>exact hb pins s1 σ H1 Q I1 q1
end
def SqL (K:PySem.W.Frag) (H:Hp) (a:Addr) (xs:List V):Prop:=
 Rd H a (.lst xs) \/
  ∃(o:Obj) (its:Array Value) (n:Nat),K.lookup a=some o/\o.cls=.type "list"/\o.dict=none/\o.data=.seq its n/\its.size<=sizeLine/\Vals xs its.toList
def SqT (K:PySem.W.Frag) (H:Hp) (a:Addr) (xs:List V):Prop:=
 Rd H a (.tup xs) \/
  ∃(o:Obj) (its:Array Value) (n:Nat),K.lookup a=some o/\o.cls=.type "tuple"/\o.data=.seq its n/\its.size<=sizeLine/\Vals xs its.toList
def absV:Value->Option V
 | .none=>some .non
 | .bool b=>some (.bl b)
 | .int i _=>some (.int i)
 | .str x _=>some (.str x)
 | .bytes b _=>some (.byt b)
 | .float b _=>some (.flt b)
 | .ref a=>some (.ref a)
 | .type n=>some (.ty n)
 | _=>none
theorem RelV.abs {x:V} {u:Value} (r:RelV x u):absV u=some x:=by
 cases x with
 | non=>cases r;rfl
 | bl _=>cases r;rfl
 | int _=>obtain ⟨t,rfl⟩:=r;rfl
 | str _=>obtain ⟨t,rfl⟩:=r;rfl
 | byt _=>obtain ⟨t,rfl⟩:=r;rfl
 | flt _=>obtain ⟨t,rfl⟩:=r;rfl
 | ref _=>cases r;rfl
 | ty _=>cases r;rfl
theorem RelV.inj {x y:V} {u:Value} (r:RelV x u) (q:RelV y u):x=y:=Option.some.inj (r.abs.symm.trans q.abs)
theorem Vals.inj:∀{xs ys:List V} {us:List Value},Vals xs us->Vals ys us->xs=ys
 | _,_,_,.nil,.nil=>rfl
 | _,_,_,.cons r t,.cons r' t'=>by rw [r.inj r',Vals.inj t t']
section
variable {X:Cx} {pins:List (Addr × Obj)} {σ:St} {H:Hp} {s:Shared} {a:Addr} {xs ys:List V}
theorem SqL.of {K:PySem.W.Frag} (h:H a=some (.lst xs)):SqL K H a xs:=.inl (.inl h)
theorem SqT.of {K:PySem.W.Frag} (h:H a=some (.tup xs)):SqT K H a xs:=.inl (.inl h)
theorem Inv.list (I:Inv X pins σ H s) (h:SqL X.K H a xs):∃its:List Value,Vals xs its/\PlainL s.heap a its.toArray/\xs.length<=sizeLine:=by
 rcases h with h|⟨o,its,n,hk,hc,hd,hs,hz,r⟩
 ·obtain ⟨z,its,n,r,e⟩:=h.ok I.hok
  exact ⟨its,r,⟨_,n,e,rfl,rfl,rfl⟩,z⟩
 ·refine ⟨its.toList,r,⟨o,n,I.kIn a o hk,hc,hd,by simpa using hs⟩,?_⟩
  have e:=r.length
  simp only [Array.length_toList] at e
  omega
theorem Inv.tuple (I:Inv X pins σ H s) (h:SqT X.K H a xs):∃its:List Value,Vals xs its/\IsTup s.heap a its.toArray/\xs.length<=sizeLine:=by
 rcases h with h|⟨o,its,n,hk,hc,hs,hz,r⟩
 ·obtain ⟨z,its,r,p⟩:=h.ok I.hok
  exact ⟨its,r,p,z⟩
 ·refine ⟨its.toList,r,⟨o,I.kIn a o hk,hc,n,by simpa using hs⟩,?_⟩
  have e:=r.length
  simp only [Array.length_toList] at e
  omega
theorem Inv.list_inj (I:Inv X pins σ H s) (h:SqL X.K H a xs) (h':SqL X.K H a ys):xs=ys:=by
 obtain ⟨its,r,⟨o,n,e,_,_,d⟩,_⟩:=I.list h
 obtain ⟨its',r',⟨o',n',e',_,_,d'⟩,_⟩:=I.list h'
 rw [e] at e';cases e'
 rw [d] at d'
 injection d' with d1 _
 have:its=its':=by simpa using congrArg Array.toList d1
 subst this
 exact r.inj r'
end
abbrev Cx.wish (X:Cx) (E:Value->Shared->Prop):Cx:={ X with xe:=E }
abbrev Cx.nox (X:Cx):Cx:=X.wish fun _ _=>False
theorem Cx.Ok.wish {X:Cx} (ok:X.Ok) (E:Value->Shared->Prop):(X.wish E).Ok:=
 ⟨ok.mod,ok.kind,ok.glob,ok.blt,ok.above,ok.inj,ok.has,ok.cab,ok.hd,ok.frames,ok.stk,ok.exf,ok.bs,ok.bsz,ok.noex,ok.exfs,ok.funs,ok.frf⟩
theorem Cx.Ok.unwish {X:Cx} {E:Value->Shared->Prop} (ok:(X.wish E).Ok):X.Ok:=
 ⟨ok.mod,ok.kind,ok.glob,ok.blt,ok.above,ok.inj,ok.has,ok.cab,ok.hd,ok.frames,ok.stk,ok.exf,ok.bs,ok.bsz,ok.noex,ok.exfs,ok.funs,ok.frf⟩
section
variable {X:Cx} {pins:List (Addr × Obj)} {σ:St} {H:Hp} {s:Shared} {E:Value->Shared->Prop}
theorem Inv.wish (I:Inv X pins σ H s) (E:Value->Shared->Prop):Inv (X.wish E) pins σ H s:=⟨I.ok.wish E,I.os,I.bare,I.base,I.loc,I.cell,I.free,I.freeC,I.pin,I.hok,I.len⟩
theorem Inv.unwish (I:Inv (X.wish E) pins σ H s):Inv X pins σ H s:=⟨I.ok.unwish,I.os,I.bare,I.base,I.loc,I.cell,I.free,I.freeC,I.pin,I.hok,I.len⟩
theorem SP.unwish {D:Ends} {f:Flow} {s':Shared} (h:SP (X.wish E) pins D f s'):SP X pins D f s':=by
 cases f with
 | next=>obtain ⟨σ',H',I,q⟩:=h;exact ⟨σ',H',I.unwish,q⟩
 | brk=>obtain ⟨σ',H',I,q⟩:=h;exact ⟨σ',H',I.unwish,q⟩
 | cont=>obtain ⟨σ',H',I,q⟩:=h;exact ⟨σ',H',I.unwish,q⟩
 | ret u=>obtain ⟨v,σ',H',I,r,q⟩:=h;exact ⟨v,σ',H',I.unwish,r,q⟩
theorem PSs.nox {st:List Stmt} {t:TS} (h:PSs X.nox st t):PSs X st t:=fun pins s σ H D I hw=>
 wpAny_mono (h pins s σ H D (I.wish _) hw) (fun _ _ q=>q.unwish) fun _ _ z=>False.elim z
end
section
variable {X:Cx} {st:Stmt} {rest:List Stmt} {t u:TS} {e:Expr} {te:TE} {pos:Pos}
def tNext:TS:=fun D σ H=>D.nx σ H
def tSeq (t u:TS):TS:=fun D σ H=>t { D with nx:=u D } σ H
theorem pss_nil:PSs X [] tNext:=fun _ _ σ H _ I h=>wpAny_execs_nil ⟨σ,H,I,h⟩
theorem pss_cons (h1:PS X st t) (h2:PSs X rest u):PSs X (st::rest) (tSeq t u):=by
 intro pins s σ H D I h
 refine wpAny_execs_cons (thn (h1 pins s σ H { D with nx:=u D } I h) fun f s1 q=>?_)
 cases f with
 | next=>
  obtain ⟨σ',H',I',q⟩:=q
  exact h2 pins s1 σ' H' D I' q
 | ret v=>exact q
 | brk=>exact q
 | cont=>exact q
theorem pss_one (h1:PS X st t):PSs X [st] t:=by
 intro pins s σ H D I h
 refine wpAny_execs_cons (thn (h1 pins s σ H D I h) fun f s1 q=>?_)
 cases f with
 | next=>exact wpAny_execs_nil q
 | ret v=>exact q
 | brk=>exact q
 | cont=>exact q
theorem Inv.quiet {pins:List (Addr × Obj)} {σ:St} {H:Hp} {s:Shared} (I:Inv X pins σ H s):interactive X.env=false:=by simp [interactive,I.ok.kind]
def tDrop (te:TE):TS:=fun D σ H=>te σ H fun _ H1=>D.nx σ H1
theorem ps_expr (he:PE X e te) (hs:swapsWith e none pos.line X.env=pure false:=by rfl):PS X (.Expr e pos) (tDrop te):=by
 intro pins s σ H D I h
 exact wpAny_Expr_any (thn (he pins s σ H _ I h) fun v s1 zq=>by obtain ⟨x,H1,I1,r1,q1⟩:=zq;exact ⟨σ,H1,I1,q1⟩) I.quiet hs
def tRet (te:TE):TS:=fun D σ H=>te σ H D.rt
theorem ps_ret (he:PE X e te):PS X (.Return (some e) pos) (tRet te):=by
 intro pins s σ H D I h
 exact wpAny_Return_some (thn (he pins s σ H _ I h) fun v s1 zq=>by obtain ⟨x,H1,I1,r1,q1⟩:=zq;exact ⟨x,σ,H1,I1,r1,q1⟩)
def tIfS (c:TT) (t u:TS):TS:=fun D σ H=>c σ H fun b H1=>if b=true then t D σ H1 else u D σ H1
theorem ps_if {c:Expr} {a b:List Stmt} {tc:TT} (hc:PT X c tc) (ha:PSs X a t) (hb:PSs X b u):PS X (.If c a b pos) (tIfS tc t u):=by
 intro pins s σ H D I h
 refine wpAny_If (thn (hc pins s σ H _ I h) fun d s1 ⟨H1,I1,q1⟩=>?_)
 cases d with
 | true=>exact ha pins s1 σ H1 D I1 q1
 | false=>exact hb pins s1 σ H1 D I1 q1
end
abbrev TG:=V->St->Hp->(St->Hp->Prop)->Prop
abbrev TGs:=List V->St->Hp->(St->Hp->Prop)->Prop
def PG (X:Cx) (target:Expr) (t:TG):Prop:=
 ∀(pins:List (Addr × Obj)) (s:Shared) (σ:St) (H:Hp) (v:V) (u:Value) (Q:St->Hp->Prop),Inv X pins σ H s->RelV v u->t v σ H Q->
  wpAny (model X.prog X.w) X.A (assign target X.env u) (fun _ s'=>∃σ' H',Inv X pins σ' H' s'/\Q σ' H') X.xe s
def PGs (X:Cx) (ts:List Expr) (t:TGs):Prop:=
 ∀(pins:List (Addr × Obj)) (s:Shared) (σ:St) (H:Hp) (vs:List V) (us:List Value) (Q:St->Hp->Prop),Inv X pins σ H s->Vals vs us->t vs σ H Q->
  wpAny (model X.prog X.w) X.A (assignInOrder ((assignEach ts X.env).map (·.2)) us) (fun _ s'=>∃σ' H',Inv X pins σ' H' s'/\Q σ' H') X.xe s
abbrev TSet:=V->V->V->Hp->(Hp->Prop)->Prop
def PSet (X:Cx) (t:TSet):Prop:=
 ∀(pins:List (Addr × Obj)) (s:Shared) (σ:St) (H:Hp) (o i v:V) (ov iv u:Value) (Q:Hp->Prop),Inv X pins σ H s->RelV o ov->RelV i iv->RelV v u->t o i v H Q->
  wpAny (model X.prog X.w) X.A (setItem ov iv u) (fun _ s'=>∃H',Inv X pins σ H' s'/\Q H') X.xe s
abbrev TIp:=V->V->Hp->VK->Prop
def PIp (X:Cx) (op:Operator) (t:TIp):Prop:=
 ∀(pins:List (Addr × Obj)) (s:Shared) (σ:St) (H:Hp) (x y:V) (v u:Value) (Q:VK),Inv X pins σ H s->RelV x v->RelV y u->t x y H Q->
  wpAny (model X.prog X.w) X.A (inplaceOp op v u) (EP X pins σ Q) X.xe s
section
variable {X:Cx} {pos:Pos}
def gName (i:Nat):TG:=fun v σ H Q=>Q (σ.set i (some v)) H
theorem pg_name {i:Nat} {x:Str} (hN:X.N.Nodup) (hi:X.N[i]? = some x) (hx:Loc X.env.scope x) (hf:X.fn x=true\/X.env.scope.names.lookup x=some .local:=by first|exact .inl rfl|exact .inr rfl|assumption):PG X (.Name x pos) (gName i):=by
 intro pins s σ H v u Q I r h
 exact wpAny_assign_Name (store_ok I hN hi hx r (fun s' I'=>⟨_,H,I',h⟩) hf)
def gNil:TGs:=fun vs σ H Q=>vs=[]/\Q σ H
def gCons (t:TG) (u:TGs):TGs:=fun vs σ H Q=>∃v r,vs=v::r/\t v σ H fun σ' H'=>u r σ' H' Q
theorem pgs_nil:PGs X [] gNil:=by
 intro pins s σ H vs us Q I r h
 obtain ⟨e,h⟩:=h
 subst e
 cases r
 exact assignInOrder_nil ⟨σ,H,I,h⟩
theorem pgs_cons {e:Expr} {es:List Expr} {t:TG} {u:TGs} (h1:PG X e t) (h2:PGs X es u)
  (hs:(assignEach (e::es) X.env).map (·.2)=assign e X.env::(assignEach es X.env).map (·.2):=by rfl):PGs X (e::es) (gCons t u):=by
 intro pins s σ H vs us Q I r h
 obtain ⟨v,vr,e1,h⟩:=h
 subst e1
 cases r with
 | cons r rr=>
  rw [hs]
  refine assignInOrder_cons (thn (h1 pins s σ H _ _ _ I r h) fun _ s1 ⟨σ1,H1,I1,q1⟩=>?_)
  exact h2 pins s1 σ1 H1 _ _ Q I1 rr q1
def gTup (K:PySem.W.Frag) (n:Nat) (t:TGs):TG:=fun v σ H Q=>∃a xs,v=.ref a/\SqT K H a xs/\xs.length=n/\t xs σ H Q
theorem pg_tup {es:List Expr} {k:Nat} {t:TGs} {n:Nat} (hc:X.calm=true) (h:PGs X es t)
  (hn:(assignEach es X.env).length=n:=by rfl) (hst:(assignEach es X.env).findIdx? (·.1)=none:=by rfl):PG X (.Tuple es k pos) (gTup X.K n t):=by
 intro pins s σ H v u Q I r hw
 obtain ⟨a,xs,e1,hq,hl,hw⟩:=hw
 subst e1
 cases r
 obtain ⟨its,rv,ht,hz⟩:=I.tuple hq
 refine assign_Tuple_tuple (I.ok.hd hc) ht (by simp [hn,<-hl,rv.length]) hst fun h' hx=>?_
 have I1:Inv X pins σ H { s with heap:=h' }:=I.kept (t':=s.toks) fun b o e=>hx b o (Nat.ne_of_lt (Heap.lt_size e)) e
 exact h pins _ σ H xs _ Q I1 (by simpa using rv) hw
def gSub (to ti:TE) (t:TSet):TG:=fun v σ H Q=>to σ H fun o H1=>ti σ H1 fun i H2=>t o i v H2 fun H3=>Q σ H3
theorem pg_sub {o i : Expr} {to ti : TE} {t : TSet} (ho : PE X o to) (hi : PE X i ti) (hs : PSet X t)
    (ha : ∀ v, assign (.Subscript o i pos) X.env v = (do
      let ov ← holding [v] (eval o X.env)
      let iv ← holding [v, ov] (eval i X.env)
      standAt pos
      holding [v, ov, iv] (setItem ov iv v)
      release [v, ov, iv] []) := by intro _; rfl) : PG X (.Subscript o i pos) (gSub to ti t) := by
  intro pins s σ H v u Q I r h
  rw [ha]
  refine wpAny_bind (wpAny_holding (thn (ho pins s σ H _ I h) fun ov s1 ⟨x, H1, I1, r1, q1⟩ => ?_))
  refine wpAny_bind (wpAny_holding (thn (hi pins s1 σ H1 _ I1 q1) fun iv s2 ⟨y, H2, I2, r2, q2⟩ => ?_))
  refine wpAny_bind (wpAny_standAt (wpAny_bind (wpAny_holding (thn (hs pins s2 σ H2 x y v ov iv u _ I2 r1 r2 r q2) fun _ s3 ⟨H3, I3, q3⟩ => ?_))))
  exact wpAny_release ⟨σ, H3, I3, q3⟩
def tAsg (te:TE) (g:TG):TS:=fun D σ H=>te σ H fun x H1=>g x σ H1 D.nx
theorem ps_asg {tg e:Expr} {te:TE} {g:TG} (he:PE X e te) (hg:PG X tg g) (hs:swapsWithSole [tg] e pos.line X.env=pure false:=by rfl) (hw:swappedStores [tg] e X.env=pure none:=by rfl)
  (h1:(assignEach [tg] X.env).map (·.2)=[assign tg X.env]:=by rfl):PS X (.Assign [tg] e pos) (tAsg te g):=by
 intro pins s σ H D I h
 refine wpAny_Assign_stores (thn (he pins s σ H _ I h) fun v s1 ⟨x,H1,I1,r1,q1⟩=>?_) hs hw
 rw [h1]
 exact thn (hg pins s1 σ H1 x v _ I1 r1 q1) fun _ s2 q=>q
theorem ps_set {i:Nat} {x:Str} {e:Expr} {te:TE} {pos':Pos} (hN:X.N.Nodup) (hi:X.N[i]? = some x) (hx:Loc X.env.scope x) (he:PE X e te) (hs:swapsWith e (some (.Name x pos')) pos.line X.env=pure false:=by rfl) (hf:X.fn x=true\/X.env.scope.names.lookup x=some .local:=by first|exact .inl rfl|exact .inr rfl|assumption) :
  PS X (.Assign [.Name x pos'] e pos) (tAsg te (gName i)):=by
 intro pins s σ H D I h
 refine wpAny_Assign_Name (thn (he pins s σ H _ I h) fun v s1 ⟨y,H1,I1,r1,q1⟩=>?_) hs
 exact store_ok I1 hN hi hx r1 (fun s2 I2=>⟨_,H1,I2,q1⟩) hf
def tAug (i:Nat) (te:TE) (ti:TIp):TS:=fun D σ H=>∃x,σ[i]? = some (some x)/\te σ H fun y H1=>ti x y H1 fun z H2=>D.nx (σ.set i (some z)) H2
theorem ps_aug {i:Nat} {x:Str} {e:Expr} {te:TE} {op:Operator} {ti:TIp} {pos':Pos} (hN:X.N.Nodup) (hi:X.N[i]? = some x) (hx:Loc X.env.scope x) (he:PE X e te) (ho:PIp X op ti) (hf:X.fn x=true\/X.env.scope.names.lookup x=some .local:=by first|exact .inl rfl|exact .inr rfl|assumption) :
  PS X (.AugAssign (.Name x pos') op e pos) (tAug i te ti):=by
 intro pins s σ H D I h
 obtain ⟨v,e1,h⟩:=h
 obtain ⟨m,hn,hl⟩:=I.loc
 have vis:Vis X.env.scope x:=by rcases hx with k|k;exact .inl k;exact .inr (.inl k)
 obtain ⟨u,r,l⟩:=hl i x v hi e1 vis
 refine wpAny_AugAssign_Name ?_
 have go:wpAny (model X.prog X.w) X.A (eval e X.env) (fun w s₂=>wpAny (model X.prog X.w) X.A (inplaceOp op u w) (fun r s₃=>wpAny (model X.prog X.w) X.A (storeName X.env x r) (fun _=>SP X pins D .next) X.xe s₃) X.xe s₂) X.xe s:=by
  refine thn (he pins s σ H _ I h) fun w s1 ⟨y,H1,I1,r1,q1⟩=>?_
  refine thn (ho pins s1 σ H1 v y u w _ I1 r r1 q1) fun z s2 ⟨zv,H2,I2,r2,q2⟩=>?_
  exact store_ok I2 hN hi hx r2 (fun s3 I3=>⟨_,H2,I3,q2⟩) hf
 rcases l with ⟨hk,hm⟩|⟨hk,c,hc,hcell⟩
 ·exact wpAny_loadName_local I.ok.kind hk hn hm go
 ·rcases hk with hk|hk
  ·exact wpAny_loadName_cell I.ok.kind hk hc hcell go
  ·rcases hx with k|k
   ·have:X.env.scope.names.lookup x=some .free:=hk
    rw [k] at this;cases this
   ·have:X.env.scope.names.lookup x=some .free:=hk
    rw [k] at this;cases this
def tAugS (to ti te:TE) (tget:V->V->Hp->VK->Prop) (tip:TIp) (tset:TSet):TS:=fun D σ H=>to σ H fun o H1=>ti σ H1 fun i H2=>tget o i H2 fun x H3=>te σ H3 fun y H4=>tip x y H4 fun z H5=>tset o i z H5 fun H6=>D.nx σ H6
def PGet (X:Cx) (t:V->V->Hp->VK->Prop):Prop:=
 ∀(pins:List (Addr × Obj)) (s:Shared) (σ:St) (H:Hp) (o i:V) (ov iv:Value) (Q:VK),Inv X pins σ H s->RelV o ov->RelV i iv->t o i H Q->
  wpAny (model X.prog X.w) X.A (getItem ov iv) (EP X pins σ Q) X.xe s
theorem ps_augS {o i e : Expr} {to ti te : TE} {tget : V → V → Hp → VK → Prop} {tip : TIp} {tset : TSet} {op : Operator} {tpos : Pos} (ho : PE X o to) (hi : PE X i ti) (hg : PGet X tget) (he : PE X e te) (hp : PIp X op tip) (hs : PSet X tset)
    (ha : ∀ ov iv new, augStore i ov iv new = (do holding [new, ov, iv] (setItem ov iv new); release [new, ov, iv] []; pure .next) := by intros; rfl) : PS X (.AugAssign (.Subscript o i tpos) op e pos) (tAugS to ti te tget tip tset) := by
  intro pins s σ H D I h
  refine wpAny_AugAssign_SubscriptAny (thn (ho pins s σ H _ I h) fun ov s1 ⟨x1, H1, I1, r1, q1⟩ => ?_) ha
  refine thn (hi pins s1 σ H1 _ I1 q1) fun iv s2 ⟨x2, H2, I2, r2, q2⟩ => ?_
  refine thn (hg pins s2 σ H2 x1 x2 ov iv _ I2 r1 r2 q2) fun old s3 ⟨x3, H3, I3, r3, q3⟩ => ?_
  refine thn (he pins s3 σ H3 _ I3 q3) fun v s4 ⟨x4, H4, I4, r4, q4⟩ => ?_
  refine thn (hp pins s4 σ H4 x3 x4 old v _ I4 r3 r4 q4) fun new s5 ⟨x5, H5, I5, r5, q5⟩ => ?_
  exact thn (hs pins s5 σ H5 x1 x2 x5 ov iv new _ I5 r1 r2 r5 q5) fun _ s6 ⟨H6, I6, q6⟩ => ⟨σ, H6, I6, q6⟩
def ipI (f:Int->Int->Int):TIp:=fun x y H Q=>∃i j,x=.int i/\y=.int j/\Q (.int (f i j)) H
theorem ip_add:PIp X .Add (ipI fun i j=>i+j):=by
 intro pins s σ H x y v u Q I r1 r2 h
 obtain ⟨i,j,e1,e2,q⟩:=h
 subst e1;subst e2
 obtain ⟨t,rfl⟩:=r1
 obtain ⟨t',rfl⟩:=r2
 exact iadd_int ⟨.int _,H,I.tok _,⟨_,rfl⟩,q⟩
theorem ip_sub:PIp X .Sub (ipI fun i j=>i - j):=by
 intro pins s σ H x y v u Q I r1 r2 h
 obtain ⟨i,j,e1,e2,q⟩:=h
 subst e1;subst e2
 obtain ⟨t,rfl⟩:=r1
 obtain ⟨t',rfl⟩:=r2
 exact isub_int ⟨.int _,H,I.tok _,⟨_,rfl⟩,q⟩
end
section
variable {X:Cx} {pos:Pos}
def tWhile (c:TT) (tb:TS):TS:=fun D σ H=>∃W:Nat->St->Hp->Prop,(∃m,W m σ H)/\∀m σ H,W m σ H->
 c σ H fun b H1=>if b=true then ∃N:St->Hp->Prop,(∀σ' H',N σ' H'->∃m',m'<m/\W m' σ' H')/\tb { D with nx:=N,ct:=N,bk:=D.nx } σ H1 else D.nx σ H1
theorem ps_while {c:Expr} {body:List Stmt} {tc:TT} {tb:TS} (hp:PassesOwn (model X.prog X.w) X.A X.env X.xe) (hc:PT X c tc) (hb:PSs X body tb):PS X (.While c body [] pos) (tWhile tc tb):=by
 intro pins s σ H D I h
 obtain ⟨W,⟨m0,w0⟩,turn⟩:=h
 refine wpAny_While (codeAny_whileLoop (fun n s'=>∃σ' H',Inv X pins σ' H' s'/\W n σ' H') ?_ m0 ⟨σ,H,I,w0⟩)
 rintro n s1 ⟨σ1,H1,I1,w1⟩
 refine wpAny_passesOwn hp (thn (hc pins s1 σ1 H1 _ I1 (turn n σ1 H1 w1)) fun b s2 ⟨H2,I2,q2⟩=>?_)
 cases b with
 | true=>
  obtain ⟨N,hN,q2⟩:=q2
  rw [if_pos rfl]
  refine wpAny_passesOwn hp (thn (hb pins s2 σ1 H2 _ I2 q2) fun f s3 q3=>?_)
  cases f with
  | next=>
   obtain ⟨σ3,H3,I3,n3⟩:=q3
   obtain ⟨m',hm,w3⟩:=hN σ3 H3 n3
   exact ⟨m',hm,σ3,H3,I3,w3⟩
  | cont=>
   obtain ⟨σ3,H3,I3,n3⟩:=q3
   obtain ⟨m',hm,w3⟩:=hN σ3 H3 n3
   exact ⟨m',hm,σ3,H3,I3,w3⟩
  | brk=>exact q3
  | ret v=>exact q3
 | false=>
  rw [if_neg Bool.false_ne_true]
  exact wpAny_execs_nil ⟨σ1,H2,I2,q2⟩
end
structure It where
 go:Nat->Hp->Prop
 yld:Nat->Hp->V->Hp->Prop
 stop:Nat->Hp->Prop
def FpOk (X:Cx) (pins:List (Addr × Obj)) (H:Hp) (b:Addr):Prop:=
 H b=none/\b≠X.env.locals/\b ∉ X.fs/\(b∈X.ex\/X.s₀.heap.objs.size<=b)/\(∀x c,X.env.cells.lookup x=some c->c≠b)/\∀p∈X.pn++pins,p.1≠b
theorem Inv.fpOk {X:Cx} {pins:List (Addr × Obj)} {σ:St} {H H':Hp} {s:Shared} {b:Addr} (I:Inv X pins σ H s) (hb:s.heap.objs.size<=b) (hn:H' b=none):FpOk X pins H' b:=by
 refine ⟨hn,Nat.ne_of_gt (Nat.lt_of_lt_of_le I.lt hb),I.nofs hb,.inr (Nat.le_trans I.sz hb),fun x c e z=>?_,fun p hp z=>?_⟩
 ·obtain ⟨v,q⟩:=I.cell x c e
  exact absurd (Nat.lt_of_lt_of_le q.lt (by rw [z];exact hb)) (Nat.lt_irrefl _)
 ·exact absurd (Nat.lt_of_lt_of_le (Heap.lt_size (I.pin p hp).1) (by rw [z];exact hb)) (Nat.lt_irrefl _)
structure Turn (P:Program) (w:World) (K:PySem.W.Frag) (tg:Expr) (J:It) (fp:List Addr) (it:Addr) (tn:Nat->Heap->Prop):Prop where
 mem:it∈fp
 obj:∀i h,tn i h->∀b∈fp,∃o,h.get? b=some o/\∀v,o.data≠.cell v
 keep:∀i h h',tn i h->(∀b∈fp,∀o,h.get? b=some o->h'.get? b=some o)->tn i h'
 item:∀(X:Cx),X.prog=P->X.w=w->X.K=K->X.calm=true->∀(i:Nat) (pins:List (Addr × Obj)) (s:Shared) (σ:St) (H:Hp) (E:Value->Shared->Prop),Inv X pins σ H s->(∀b∈fp,FpOk X pins H b)->tn i s.heap->J.go i H->
  wpAny (model P w) X.A (pyNext (.ref it)) (fun r s1=>∃u,r=some u /\
   wpAny (model P w) X.A (letOwnedTupleGo tg (.ref it) u) (fun _ s2=>∃x H',Inv X pins σ H' s2/\RelV x u/\J.yld i H x H'/\tn (i+1) s2.heap/\∀b∈fp,H' b=none) E s1) E s
 done:∀(X:Cx),X.prog=P->X.w=w->X.K=K->X.calm=true->∀(i:Nat) (pins:List (Addr × Obj)) (s:Shared) (σ:St) (H:Hp) (E:Value->Shared->Prop),Inv X pins σ H s->(∀b∈fp,FpOk X pins H b)->tn i s.heap->J.stop i H->
  wpAny (model P w) X.A (pyNext (.ref it)) (fun r s1=>r=none/\Inv X pins σ H s1) E s
 self:∀(A:Around) (i:Nat) (s:Shared) (Q:Value->Shared->Prop) (E:Value->Shared->Prop),tn i s.heap->Q (.ref it) s->wpAny (model P w) A (pyIter (.ref it)) Q E s
abbrev TI:=St->Hp->(It->Hp->Prop)->Prop
def PIE (X:Cx) (pins:List (Addr × Obj)) (σ:St) (tg:Expr) (R:It->Hp->Prop) (itv:Value) (s2:Shared):Prop:=
 ∃(it:Addr) (fp:List Addr) (tn:Nat->Heap->Prop) (J:It) (H':Hp),itv=.ref it/\Inv X pins σ H' s2/\Turn X.prog X.w X.K tg J fp it tn/\tn 0 s2.heap/\(∀b∈fp,FpOk X pins H' b)/\R J H'
def PI (X:Cx) (tg iter:Expr) (wi:TI):Prop:=
 ∀(pins:List (Addr × Obj)) (s:Shared) (σ:St) (H:Hp) (R:It->Hp->Prop),Inv X pins σ H s->wi σ H R->
  wpAny (model X.prog X.w) X.A (eval iter X.env) (fun v s1=>wpAny (model X.prog X.w) X.A (pyIter v) (PIE X pins σ tg R) X.xe s1) X.xe s
theorem go_of {M : Model} {A : Around} {E : Value → Shared → Prop} {s : Shared} {tg : Expr} {it : Addr} {u : Value} {o : Obj} {n : String} {vs : Array Value} {Q : Unit → Shared → Prop} (ho : s.heap.get? it = some o) (hc : o.cls = .type n) (hd : o.data = .fields vs)
    (hn : ["enumerate", "zip", "dict_itemiterator", "dict_reverseitemiterator", "odict_iterator", "itertools.zip_longest", "itertools.pairwise"].contains n = false) (hQ : Q () s) : wpAny M A (letOwnedTupleGo tg (.ref it) u) Q E s := by
  unfold letOwnedTupleGo
  cases tg <;> first
    | exact wpAny_pure hQ
    | (cases u <;> first
        | exact wpAny_pure hQ
        | (refine wpAny_bind (wpAny_load ho ?_)
           rw [hc, hd]
           show wpAny M A (if (["enumerate", "zip", "dict_itemiterator", "dict_reverseitemiterator", "odict_iterator", "itertools.zip_longest", "itertools.pairwise"].contains n && vs[0]? == some (rawInt _)) = true then _ else _) Q E s
           rw [if_neg (by intro h; rw [hn, Bool.false_and] at h; cases h)]
           exact wpAny_pure hQ))
def Itl (K:PySem.W.Frag) (a:Addr):It:=
 ⟨fun i H=>∃xs x,SqL K H a xs/\xs[i]? = some x,fun i H x H'=>H'=H/\∀xs,SqL K H a xs->xs[i]? = some x,fun i H=>∃xs,SqL K H a xs/\xs.length<=i⟩
def Itr (lo:Int) (n:Nat):It:=⟨fun i _=>i<n,fun i H x H'=>H'=H/\x=.int (lo+i),fun i _=>n<=i⟩
theorem turn_list {P:Program} {w:World} {K:PySem.W.Frag} {tg:Expr} (a it:Addr):Turn P w K tg (Itl K a) [it] it (fun i h=>h.IsListIter it a i) where
 mem:=by simp
 obj:=fun i h st b hb=>by
  have e:b=it:=by simpa using hb
  subst e
  obtain ⟨o,e,c,d⟩:=st
  exact ⟨o,e,fun v z=>by rw [d] at z;cases z⟩
 keep:=fun i h h' st k=>st.at fun o e=>k it (by simp) o e
 item:=by
  intro X hP hw hK hc i pins s σ H E I hf st hg
  subst hP hw hK
  obtain ⟨xs,x,hq,hx⟩:=hg
  obtain ⟨its,rv,p,hz⟩:=I.list hq
  obtain ⟨u,hu,ru⟩:=rv.get hx
  obtain ⟨f0,f1,f2,f3,f4,f5⟩:=hf it (by simp)
  refine wpAny_pyNext_list_item st p.isList (x:=u) (by simpa using hu) fun h' st' sb=>?_
  have I1:Inv X pins σ H { s with heap:=h' }:=I.turned (t':=s.toks) (fun b o hb e=>(sb.2 b hb).trans e) f0 f1 f3 f4 f5
  obtain ⟨o,e,c,d⟩:=id st'
  exact ⟨u,rfl,go_of (s:={ s with heap:=h' }) e c d (by decide) ⟨x,H,I1,ru,⟨rfl,fun ys hy=>by rw [I.list_inj hy hq];exact hx⟩,st',fun b hb=>(hf b hb).1⟩⟩
 done:=by
  intro X hP hw hK hc i pins s σ H E I hf st hg
  subst hP hw hK
  obtain ⟨xs,hq,hx⟩:=hg
  obtain ⟨its,rv,p,hz⟩:=I.list hq
  obtain ⟨f0,f1,f2,f3,f4,f5⟩:=hf it (by simp)
  have hl:=rv.length
  exact wpAny_pyNext_list_end (I.ok.hd hc) st p.isList (by simp;omega) fun h' eb=>⟨rfl,I.turned (t':=s.toks) (fun b o hb e=>eb b o hb e) f0 f1 f3 f4 f5⟩
 self:=fun _ _ _ _ _ st h=>wpAny_pyIter_listiter st h
theorem turn_range {P:Program} {w:World} {K:PySem.W.Frag} {tg:Expr} (it:Addr) (lo:Int) (n:Nat):Turn P w K tg (Itr lo n) [it] it (fun i h=>IsRangeIter h it (lo+(i:Nat) * 1) ((n:Int) - (i:Nat)) 1) where
 mem:=by simp
 obj:=fun i h st b hb=>by
  have e:b=it:=by simpa using hb
  subst e
  exact ⟨_,st,fun v z=>by
   have z':Data.fields _=Data.cell v:=z
   cases z'⟩
 keep:=fun i h h' st k=>k it (by simp) _ st
 item:=by
  intro X hP hw hK hc i pins s σ H E I hf st hg
  subst hP hw hK
  obtain ⟨f0,f1,f2,f3,f4,f5⟩:=hf it (by simp)
  have W:=Walks.range (prog:=X.prog) (w:=X.w) (I.ok.hd hc) it lo 1 n
  refine W.item i s _ _ hg st fun v h' tk hv st' kk=>?_
  obtain ⟨t,rfl⟩:=hv
  have I1:Inv X pins σ H { s with heap:=h',toks:=tk }:=I.turned (fun b o hb e=>kk b o (by simpa using hb) e) f0 f1 f3 f4 f5
  refine ⟨_,rfl,go_of (s:={ s with heap:=h',toks:=tk }) (n:="range_iterator") st' rfl rfl (by decide) ⟨.int (lo+i),H,I1,⟨t,?_⟩,⟨rfl,rfl⟩,st',fun b hb=>(hf b hb).1⟩⟩
  rw [Int.mul_one]
 done:=by
  intro X hP hw hK hc i pins s σ H E I hf st hg
  subst hP hw hK
  obtain ⟨f0,f1,f2,f3,f4,f5⟩:=hf it (by simp)
  exact wpAny_pyNext_range_end (I.ok.hd hc) st (by have:n<=i:=hg;omega) fun h' eb=>⟨rfl,I.turned (t':=s.toks) (fun b o hb e=>eb b o hb e) f0 f1 f3 f4 f5⟩
 self:=fun _ _ _ _ _ st h=>wpAny_pyIter_rangeiter st h
section
variable {X:Cx} {tg:Expr}
def iList (K:PySem.W.Frag) (tl:TE):TI:=fun σ H R=>tl σ H fun x H1=>∃a,x=.ref a/\(∃xs,SqL K H1 a xs)/\R (Itl K a) H1
theorem pi_list {l:Expr} {tl:TE} (hl:PE X l tl):PI X tg l (iList X.K tl):=by
 intro pins s σ H R I h
 refine thn (hl pins s σ H _ I h) fun v s1 ⟨x,H1,I1,r1,q1⟩=>?_
 obtain ⟨a,e,⟨xs,hq⟩,q⟩:=q1
 subst e
 cases r1
 obtain ⟨its,rv,p,hz⟩:=I1.list hq
 refine wpAny_pyIter_list p.isList ?_
 refine ⟨s1.heap.objs.size,[s1.heap.objs.size],_,_,H1,rfl,I1.kept (t':=s1.toks) fun b o e=>Heap.get?_push_of_some _ e,turn_list a _,⟨_,Heap.get?_push_size _ rfl,rfl,rfl⟩,fun b hb=>?_,q⟩
 have e:b=s1.heap.objs.size:=by simpa using hb
 subst e
 exact I1.fpOk (Nat.le_refl _) (I1.hok.fresh (Nat.le_refl _))
theorem range_it {pins:List (Addr × Obj)} {σ:St} {H:Hp} {s:Shared} {R:It->Hp->Prop} {E:Value->Shared->Prop} {lo hi:Int} {t u v:Tok} {tk:Nat} (I:Inv X pins σ H s) (h1:-(2 ^ 62)<=lo) (h2:lo<2 ^ 62) (h3:-(2 ^ 62)<=hi) (h4:hi<2 ^ 62)
  (q:R (Itr lo (hi - lo).toNat) H):wpAny (model X.prog X.w) X.A (pyIter (.ref s.heap.objs.size)) (PIE X pins σ tg R) E { s with heap:=s.heap.push { cls:=.type "range",data:=.fields #[.int lo t,.int hi u,.int 1 v] },toks:=tk }:=by
 refine wpAny_pyIter_range (IsRange.new ..) (small_one h1 h2 h3 h4) ?_
 have I1:Inv X pins σ H { s with heap:=s.heap.push { cls:=.type "range",data:=.fields #[.int lo t,.int hi u,.int 1 v] },toks:=tk }:=I.kept fun b o e=>Heap.get?_push_of_some _ e
 refine ⟨(s.heap.push { cls:=.type "range",data:=.fields #[.int lo t,.int hi u,.int 1 v] }).objs.size,[(s.heap.push { cls:=.type "range",data:=.fields #[.int lo t,.int hi u,.int 1 v] }).objs.size],_,_,H,rfl,
  I1.kept (t':=tk) fun b o e=>Heap.get?_push_of_some _ e,turn_range _ lo (hi - lo).toNat,?_,fun b hb=>?_,q⟩
 ·have e1:lo+((0:Nat):Int) * 1=lo:=by simp
  have e2:(((hi - lo).toNat:Nat):Int) - ((0:Nat):Int)=Builtin.Range.rangeSize lo hi 1:=by rw [rangeSize_one];split<;>omega
  show IsRangeIter _ _ (lo+((0:Nat):Int) * 1) ((((hi - lo).toNat:Nat):Int) - ((0:Nat):Int)) 1
  rw [e1,e2]
  exact Heap.get?_push_size _ rfl
 ·have e:b=(s.heap.push { cls:=.type "range",data:=.fields #[.int lo t,.int hi u,.int 1 v] }).objs.size:=by simpa using hb
  subst e
  exact I1.fpOk (Nat.le_refl _) (I1.hok.fresh (Nat.le_refl _))
def iRng1 (ta:TA):TI:=fun σ H R=>ta σ H fun vs H1=>∃j:Int,vs=[.int j]/\-(2 ^ 62)<=j/\j<2 ^ 62/\R (Itr 0 j.toNat) H1
def iRng2 (ta:TA):TI:=fun σ H R=>ta σ H fun vs H1=>∃i j:Int,vs=[.int i,.int j]/\(-(2 ^ 62)<=i/\i<2 ^ 62/\-(2 ^ 62)<=j/\j<2 ^ 62)/\R (Itr i (j - i).toNat) H1
theorem pi_range1 {a:Expr} {ta:TA} {p pos:Pos} (hg:Gl X "range") (hm:X.mg "range"=none) (ha:PA X [a] ta) (hs:starEach [a] X.env=[(false,eval a X.env)]:=by rfl):PI X tg (.Call (.Name "range" p) [a] [] pos) (iRng1 ta):=by
 intro pins s σ H R I h
 refine Call_ (ld_blt I hg hm boot_range (PyProof.Rows.callWith_type1 (thn (ha pos pins s σ H _ I h) fun us s1 ⟨vs,H1,I1,r1,q1⟩=>?_) hs rfl))
 obtain ⟨j,e,q1,q2,q⟩:=q1
 subst e
 cases r1 with
 | cons r rr=>
  cases rr
  obtain ⟨t,rfl⟩:=r
  exact call_range_1 (range_it I1 (by omega) (by omega) q1 q2 (by simpa using q))
theorem pi_range2 {a b:Expr} {ta:TA} {p pos:Pos} (hg:Gl X "range") (hm:X.mg "range"=none) (ha:PA X [a,b] ta) (hs:starEach [a,b] X.env=[(false,eval a X.env),(false,eval b X.env)]:=by rfl) (hs2:starEach [b] X.env=[(false,eval b X.env)]:=by rfl) :
  PI X tg (.Call (.Name "range" p) [a,b] [] pos) (iRng2 ta):=by
 intro pins s σ H R I h
 refine Call_ (ld_blt I hg hm boot_range (PyProof.Rows.callWith_type1 (thn (ha pos pins s σ H _ I h) fun us s1 ⟨vs,H1,I1,r1,q1⟩=>?_) (by rw [hs,hs2]) (by rw [hs2];rfl)))
 obtain ⟨i,j,e,⟨q1,q2,q3,q4⟩,q⟩:=q1
 subst e
 cases r1 with
 | cons r rr=>
  cases rr with
  | cons r' rr=>
   cases rr
   obtain ⟨t,rfl⟩:=r
   obtain ⟨t',rfl⟩:=r'
   exact call_range_2 (range_it I1 q1 q2 q3 q4 q)
def tFor (wi:TI) (g:TG) (tb:TS):TS:=fun D σ H=>wi σ H fun J H1=>∃W:Nat->Nat->St->Hp->Prop,(∃m,W 0 m σ H1)/\∀i m σ H,W i m σ H->
 (J.stop i H/\D.nx σ H)\/(J.go i H/\∃N:St->Hp->Prop,(∀σ' H',N σ' H'->∃m',m'<m/\W (i+1) m' σ' H')/\∀x H',J.yld i H x H'->g x σ H' fun σ2 H2=>tb { D with nx:=N,ct:=N,bk:=D.nx } σ2 H2)
def pinsAt (fp:List Addr) (h:Heap):List (Addr × Obj):=fp.filterMap fun b=>(h.get? b).map fun o=>(b,o)
theorem mem_pinsAt {fp:List Addr} {h:Heap} {b:Addr} {o:Obj} (hb:b∈fp) (e:h.get? b=some o):(b,o)∈pinsAt fp h:=List.mem_filterMap.mpr ⟨b,hb,by rw [e];rfl⟩
theorem of_pinsAt {fp:List Addr} {h:Heap} {p:Addr × Obj} (hp:p∈pinsAt fp h):p.1∈fp/\h.get? p.1=some p.2:=by
 obtain ⟨b,hb,e⟩:=List.mem_filterMap.mp hp
 cases q:h.get? b with
 | none=>rw [q] at e;cases e
 | some o=>
  rw [q] at e
  have e':(b,o)=p:=Option.some.inj e
  subst e'
  exact ⟨hb,q⟩
theorem Inv.pinned {pins:List (Addr × Obj)} {σ:St} {H:Hp} {s:Shared} {fp:List Addr} (I:Inv X pins σ H s) (hf:∀b∈fp,FpOk X pins H b) (ho:∀b∈fp,∃o,s.heap.get? b=some o/\∀v,o.data≠.cell v):Inv X (pins++pinsAt fp s.heap) σ H s:=
 I.pins_of fun p hp=>(List.mem_append.mp hp).elim (fun z=>I.pin p (List.mem_append_right _ z)) fun z=>by
  obtain ⟨hb,e⟩:=of_pinsAt z
  obtain ⟨f0,f1,f2,_⟩:=hf p.1 hb
  obtain ⟨o,e',d⟩:=ho p.1 hb
  rw [e] at e';cases e'
  exact ⟨e,f0,f1,f2,d⟩
theorem Inv.unpinned {pins pl:List (Addr × Obj)} {σ:St} {H:Hp} {s:Shared} (I:Inv X (pins++pl) σ H s):Inv X pins σ H s:=I.pins_of fun p hp=>I.pin p (List.mem_append_right _ (List.mem_append_left _ hp))
theorem ps_for {iter:Expr} {body:List Stmt} {wi:TI} {g:TG} {tb:TS} {pos:Pos} (hp:PassesOwn (model X.prog X.w) X.A X.env X.xe) (hc:X.calm=true) (hi:PI X tg iter wi) (hg:PG X tg g) (hb:PSs X body tb)
  (hs:∀x,foldedSetIterable iter X.env x=pure x:=by intro _;rfl):PS X (.For tg iter body [] pos) (tFor wi g tb):=by
 intro pins s σ H D I h
 refine wpAny_For (thn (hi pins s σ H _ I h) fun v s1 h1=>thn h1 fun itv s2 h2=>?_) hs
 obtain ⟨it,fp,tn,J,H2,e,I2,T,st2,f2,W,⟨m0,w0⟩,turn⟩:=h2
 subst e
 -- what stays true of the iterator's objects through the loop
 have stat:∀{H':Hp},(∀b∈fp,H' b=none)->∀b∈fp,FpOk X pins H' b:=fun hn b hb=>⟨hn b hb,(f2 b hb).2⟩
 refine codeAny_forLoop_any (fun n s'=>∃i σ' H',Inv X pins σ' H' s'/\tn i s'.heap/\(∀b∈fp,H' b=none)/\W i n σ' H') ?_ m0 ⟨0,σ,H2,I2,st2,fun b hb=>(f2 b hb).1,w0⟩
 rintro n s3 ⟨i,σ3,H3,I3,st3,fr3,w3⟩
 rcases turn i n σ3 H3 w3 with ⟨stop,qn⟩|⟨go,N,hN,step⟩
 ·refine wpAny_passesOwn hp (thn (T.done X rfl rfl rfl hc i pins s3 σ3 H3 X.xe I3 (stat fr3) st3 stop) fun r s4 ⟨hr,I4⟩=>?_)
  subst hr
  exact wpAny_execs_nil ⟨σ3,H3,I4,qn⟩
 ·refine wpAny_passesOwn hp (thn (T.item X rfl rfl rfl hc i pins s3 σ3 H3 X.xe I3 (stat fr3) st3 go) fun r s4 ⟨u,hr,h4⟩=>?_)
  subst hr
  refine wpAny_passesOwn hp (thn h4 fun _ s5 ⟨x,H5,I5,r5,y5,st5,fr5⟩=>?_)
  have I5':=I5.pinned (stat fr5) (T.obj _ _ st5)
  refine wpAny_passesOwn hp (thn (hg _ s5 σ3 H5 x u _ I5' r5 (step x H5 y5)) fun _ s6 ⟨σ6,H6,I6,q6⟩=>?_)
  refine wpAny_passesOwn hp (thn (hb _ s6 σ6 H6 _ I6 q6) fun f s7 q7=>?_)
  have again:∀{σ7:St} {H7:Hp},Inv X (pins++pinsAt fp s5.heap) σ7 H7 s7->N σ7 H7->∃m,m<n/\∃i σ' H',Inv X pins σ' H' s7/\tn i s7.heap/\(∀b∈fp,H' b=none)/\W i m σ' H':=fun {σ7 H7} I7 n7=>by
   obtain ⟨m',hm,w7⟩:=hN σ7 H7 n7
   refine ⟨m',hm,i+1,σ7,H7,I7.unpinned,T.keep _ _ _ st5 fun b hb o e=>(I7.pin (b,o) (List.mem_append_right _ (List.mem_append_right _ (mem_pinsAt hb e)))).1,fun b hb=>?_,w7⟩
   obtain ⟨o,e,d⟩:=T.obj _ _ st5 b hb
   exact (I7.pin (b,o) (List.mem_append_right _ (List.mem_append_right _ (mem_pinsAt hb e)))).2.1
  cases f with
  | next=>obtain ⟨σ7,H7,I7,n7⟩:=q7;exact again I7 n7
  | cont=>obtain ⟨σ7,H7,I7,n7⟩:=q7;exact again I7 n7
  | brk=>obtain ⟨σ7,H7,I7,q7⟩:=q7;exact ⟨σ7,H7,I7.unpinned,q7⟩
  | ret v=>obtain ⟨x7,σ7,H7,I7,r7,q7⟩:=q7;exact ⟨x7,σ7,H7,I7.unpinned,r7,q7⟩
end
abbrev R2:=V->V->Hp->VK->Prop
def OpR (X:Cx) (f:Value->Value->Sem Value) (r:R2):Prop:=
 ∀(pins:List (Addr × Obj)) (s:Shared) (σ:St) (H:Hp) (x y:V) (v u:Value) (Q:VK),Inv X pins σ H s->RelV x v->RelV y u->r x y H Q->
  wpAny (model X.prog X.w) X.A (f v u) (EP X pins σ Q) X.xe s
def UnR (X:Cx) (f:Value->Sem Value) (r:V->Hp->VK->Prop):Prop:=
 ∀(pins:List (Addr × Obj)) (s:Shared) (σ:St) (H:Hp) (x:V) (v:Value) (Q:VK),Inv X pins σ H s->RelV x v->r x H Q->
  wpAny (model X.prog X.w) X.A (f v) (EP X pins σ Q) X.xe s
def CallR (X:Cx) (f:Value) (r:List V->Hp->VK->Prop):Prop:=
 ∀(pins:List (Addr × Obj)) (s:Shared) (σ:St) (H:Hp) (xs:List V) (us:List Value) (Q:VK),Inv X pins σ H s->Vals xs us->r xs H Q->
  wpAny (model X.prog X.w) X.A (call f us) (EP X pins σ Q) X.xe s
def tOp (r:R2) (ta tb:TE):TE:=fun σ H Q=>ta σ H fun x H1=>tb σ H1 fun y H2=>r x y H2 Q
def tUn (r:V->Hp->VK->Prop) (ta:TE):TE:=fun σ H Q=>ta σ H fun x H1=>r x H1 Q
def rI (C:Int->Int->Prop) (g:Int->Int->V):R2:=fun x y H Q=>∃i j,x=.int i/\y=.int j/\C i j/\Q (g i j) H
def rI0 (g:Int->Int->V):R2:=fun x y H Q=>∃i j,x=.int i/\y=.int j/\Q (g i j) H
def rU (g:Int->V):V->Hp->VK->Prop:=fun x H Q=>∃i,x=.int i/\Q (g i) H
section
variable {X:Cx} {a b c:Expr} {ta tb tc:TE} {pos:Pos}
theorem binT (ha:PE X a ta) (hb:PE X b tb) {pins:List (Addr × Obj)} {s:Shared} {σ:St} {H:Hp} {R:V->V->Hp->Prop} (I:Inv X pins σ H s)
  (h:ta σ H fun x H1=>tb σ H1 fun y H2=>R x y H2) {Q:Value->Shared->Prop} {f:Value->Value->Sem Value}
  (hf:∀v u s2 x y H2,Inv X pins σ H2 s2->RelV x v->RelV y u->R x y H2->wpAny (model X.prog X.w) X.A (f v u) Q X.xe s2) :
  wpAny (model X.prog X.w) X.A (eval a X.env) (fun v s₁=>wpAny (model X.prog X.w) X.A (eval b X.env) (fun u s₂=>wpAny (model X.prog X.w) X.A (f v u) Q X.xe s₂) X.xe s₁) X.xe s:=by
 refine thn (ha pins s σ H _ I h) fun v s1 ⟨x,H1,I1,r1,q1⟩=>?_
 refine thn (hb pins s1 σ H1 _ I1 q1) fun u s2 ⟨y,H2,I2,r2,q2⟩=>?_
 exact hf v u s2 x y H2 I2 r1 r2 q2
theorem pe_op {op:Operator} {r:R2} (ho:OpR X (binaryOp op) r) (ha:PE X a ta) (hb:PE X b tb):PE X (.BinOp a op b pos) (tOp r ta tb):=by
 intro pins s σ H Q I h
 exact wpAny_BinOp (binT ha hb I h fun v u s2 x y H2 I2 rx ry q=>ho pins s2 σ H2 x y v u Q I2 rx ry q)
theorem pe_un {op:UnaryOp} {r:V->Hp->VK->Prop} (ho:UnR X (unaryOp op) r) (ha:PE X a ta):PE X (.UnaryOp op a pos) (tUn r ta):=by
 intro pins s σ H Q I h
 exact UnaryOp_ (thn (ha pins s σ H _ I h) fun v s1 zq=>by obtain ⟨x,H1,I1,r1,q1⟩:=zq;exact ho pins s1 σ H1 x v Q I1 r1 q1)
theorem opI {f:Value->Value->Sem Value} {C:Int->Int->Prop} {g:Int->Int->Int}
  (rule:∀(i j:Int) (t u:Tok) (s:Shared) (Q:Value->Shared->Prop) (E:Value->Shared->Prop),C i j->Q (.int (g i j) s.toks) { s with toks:=s.toks+1 }->wpAny (model X.prog X.w) X.A (f (.int i t) (.int j u)) Q E s) :
  OpR X f (rI C fun i j=>.int (g i j)):=by
 intro pins s σ H x y v u Q I rx ry h
 obtain ⟨i,j,rfl,rfl,hc,q⟩:=h
 obtain ⟨t,rfl⟩:=rx
 obtain ⟨t',rfl⟩:=ry
 exact rule i j t t' s _ _ hc ⟨.int (g i j),H,I.tok _,⟨_,rfl⟩,q⟩
theorem opI0 {f:Value->Value->Sem Value} {g:Int->Int->Int}
  (rule:∀(i j:Int) (t u:Tok) (s:Shared) (Q:Value->Shared->Prop) (E:Value->Shared->Prop),Q (.int (g i j) s.toks) { s with toks:=s.toks+1 }->wpAny (model X.prog X.w) X.A (f (.int i t) (.int j u)) Q E s) :
  OpR X f (rI0 fun i j=>.int (g i j)):=by
 intro pins s σ H x y v u Q I rx ry h
 obtain ⟨i,j,rfl,rfl,q⟩:=h
 obtain ⟨t,rfl⟩:=rx
 obtain ⟨t',rfl⟩:=ry
 exact rule i j t t' s _ _ ⟨.int (g i j),H,I.tok _,⟨_,rfl⟩,q⟩
theorem opB0 {f:Value->Value->Sem Value} {g:Int->Int->Bool}
  (rule:∀(i j:Int) (t u:Tok) (s:Shared) (Q:Value->Shared->Prop) (E:Value->Shared->Prop),Q (.bool (g i j)) s->wpAny (model X.prog X.w) X.A (f (.int i t) (.int j u)) Q E s) :
  OpR X f (rI0 fun i j=>.bl (g i j)):=by
 intro pins s σ H x y v u Q I rx ry h
 obtain ⟨i,j,rfl,rfl,q⟩:=h
 obtain ⟨t,rfl⟩:=rx
 obtain ⟨t',rfl⟩:=ry
 exact rule i j t t' s _ _ ⟨.bl (g i j),H,I,rfl,q⟩
def CDiv (i j:Int):Prop:=0<j/\j<1073741824
def CPow (i j:Int):Prop:=0<=j/\j<=1000000/\i.natAbs<2 ^ 64
def CMul (i j:Int):Prop:=(-(2 ^ 64)<i/\i<2 ^ 64)\/(-(2 ^ 64)<j/\j<2 ^ 64)
theorem CMul.ok {i j:Int} (h:CMul i j):IntMulOk i j:=by
 rcases h with ⟨h1,h2⟩|⟨h1,h2⟩
 ·exact .of_left (intBits_le_64 h1 h2)
 ·exact .of_right (intBits_le_64 h1 h2)
theorem op_add:OpR X (binaryOp .Add) (rI0 fun i j=>.int (i+j)):=opI0 fun _ _ _ _ _ _ _ q=>add_int q
theorem op_sub:OpR X (binaryOp .Sub) (rI0 fun i j=>.int (i - j)):=opI0 fun _ _ _ _ _ _ _ q=>sub_int q
theorem op_mul:OpR X (binaryOp .Mult) (rI CMul fun i j=>.int (i * j)):=opI fun _ _ _ _ _ _ _ hc q=>mul_int q hc.ok
theorem op_fdiv:OpR X (binaryOp .FloorDiv) (rI CDiv fun i j=>.int (i / j)):=opI fun i j _ _ _ _ _ hc q=>by
 have h1:(0:Int)<j:=hc.1
 have h2:j<1073741824:=hc.2
 exact floordiv_int (by omega) (by rw [Int.fdiv_eq_ediv_of_nonneg i (by omega)];exact q) (.inl (PyProof.noPylong_small (by omega)))
theorem op_mod:OpR X (binaryOp .Mod) (rI (fun _ j=>0<j) fun i j=>.int (i % j)):=opI fun i j _ _ _ _ _ hc q=>by
 have h1:(0:Int)<j:=hc
 exact mod_int' (by omega) (by rw [Int.fmod_eq_emod_of_nonneg i (by omega)];exact q)
theorem op_pow:OpR X (binaryOp .Pow) (rI CPow fun i j=>.int (i ^ j.toNat)):=opI fun _ _ _ _ _ _ _ hc q=>pow_int_small hc.1 hc.2.1 hc.2.2 q
theorem op_and:OpR X (binaryOp .BitAnd) (rI0 fun i j=>.int (Builtin.bitAnd i j)):=opI0 fun _ _ _ _ _ _ _ q=>and_int q
theorem iop_add:OpR X (inplaceOp .Add) (rI0 fun i j=>.int (i+j)):=opI0 fun _ _ _ _ _ _ _ q=>iadd_int q
theorem iop_sub:OpR X (inplaceOp .Sub) (rI0 fun i j=>.int (i - j)):=opI0 fun _ _ _ _ _ _ _ q=>isub_int q
theorem iop_mul:OpR X (inplaceOp .Mult) (rI CMul fun i j=>.int (i * j)):=opI fun _ _ _ _ _ _ _ hc q=>imul_int q hc.ok
theorem unI {f:Value->Sem Value} {g:Int->Int}
  (rule:∀(i:Int) (t:Tok) (s:Shared) (Q:Value->Shared->Prop) (E:Value->Shared->Prop),Q (.int (g i) s.toks) { s with toks:=s.toks+1 }->wpAny (model X.prog X.w) X.A (f (.int i t)) Q E s) :
  UnR X f (rU fun i=>.int (g i)):=by
 intro pins s σ H x v Q I rx h
 obtain ⟨i,rfl,q⟩:=h
 obtain ⟨t,rfl⟩:=rx
 exact rule i t s _ _ ⟨.int (g i),H,I.tok _,⟨_,rfl⟩,q⟩
theorem un_neg:UnR X (unaryOp .USub) (rU fun i=>.int (-i)):=unI fun _ _ _ _ _ q=>neg_int q
end
def scal:V->V->Bool
 | .non,.non=>true|.non,.int _=>true|.int _,.non=>true|.non,.bl _=>true|.bl _,.non=>true|.non,.str _=>true|.str _,.non=>true
 | .int _,.int _=>true|.bl _,.bl _=>true|.str _,.str _=>true|.byt _,.byt _=>true
 | .int _,.str _=>true|.str _,.int _=>true|.bl _,.str _=>true|.str _,.bl _=>true
 | _,_=>false
def rEq:R2:=fun x y H Q=>scal x y=true/\Q (.bl (decide (x=y))) H
def rNe:R2:=fun x y H Q=>scal x y=true/\Q (.bl (!decide (x=y))) H
theorem dec_int {i j:Int}:decide (V.int i=V.int j)=(i == j):=by
 rw [Bool.eq_iff_iff]
 simp
theorem dec_bl {i j:Bool}:decide (V.bl i=V.bl j)=(i == j):=by
 rw [Bool.eq_iff_iff]
 simp
theorem dec_str {i j:Str}:decide (V.str i=V.str j)=(i == j):=by
 rw [Bool.eq_iff_iff]
 simp
theorem dec_byt {i j:Array UInt8}:decide (V.byt i=V.byt j)=(i.toList == j.toList):=by
 rw [Bool.eq_iff_iff]
 cases i
 cases j
 simp
section
variable {X:Cx} {a b c:Expr} {ta tb tc:TE} {pos:Pos}
theorem fin_bl {pins:List (Addr × Obj)} {σ:St} {H:Hp} {s:Shared} {Q:VK} {k k':Bool} (I:Inv X pins σ H s) (q:Q (.bl k) H) (e:k=k'):EP X pins σ Q (.bool k') s:=by
 subst e
 exact ⟨.bl k,H,I,rfl,q⟩
theorem op_eq:OpR X (compareOp .Eq) rEq:=by
 intro pins s σ H x y v u Q I rx ry h
 obtain ⟨hs,q⟩:=h
 cases x with
 | non=>
  cases rx
  cases y with
  | non=>cases ry;exact PySem.EqNone.eq_none_none (fin_bl I q (by simp))
  | bl j=>cases ry;exact PySem.EqNone.eq_none_bool (fin_bl I q (by simp))
  | int j=>obtain ⟨t',rfl⟩:=ry;exact PySem.EqNone.eq_none_int (fin_bl I q (by simp))
  | str j=>obtain ⟨t',rfl⟩:=ry;exact PySem.EqNone.eq_none_str (fin_bl I q (by simp))
  | _=>exact absurd (show false=true from hs) Bool.false_ne_true
 | bl i=>
  cases rx
  cases y with
  | non=>cases ry;exact PySem.EqNone.eq_bool_none (fin_bl I q (by simp))
  | bl j=>cases ry;exact eq_bool (fin_bl I q dec_bl)
  | str j=>obtain ⟨t',rfl⟩:=ry;exact PySem.EqMixed.eq_bool_str (fin_bl I q (by simp))
  | _=>exact absurd (show false=true from hs) Bool.false_ne_true
 | int i=>
  obtain ⟨t,rfl⟩:=rx
  cases y with
  | non=>cases ry;exact PySem.EqNone.eq_int_none (fin_bl I q (by simp))
  | int j=>obtain ⟨t',rfl⟩:=ry;exact eq_int (fin_bl I q dec_int)
  | str j=>obtain ⟨t',rfl⟩:=ry;exact PySem.EqMixed.eq_int_str (fin_bl I q (by simp))
  | _=>exact absurd (show false=true from hs) Bool.false_ne_true
 | str i=>
  obtain ⟨t,rfl⟩:=rx
  cases y with
  | non=>cases ry;exact PySem.EqNone.eq_str_none (fin_bl I q (by simp))
  | bl j=>cases ry;exact PySem.EqMixed.eq_str_bool (fin_bl I q (by simp))
  | int j=>obtain ⟨t',rfl⟩:=ry;exact PySem.EqMixed.eq_str_int (fin_bl I q (by simp))
  | str j=>obtain ⟨t',rfl⟩:=ry;exact eq_str (fin_bl I q dec_str)
  | _=>exact absurd (show false=true from hs) Bool.false_ne_true
 | byt i=>
  obtain ⟨t,rfl⟩:=rx
  cases y with
  | byt j=>obtain ⟨t',rfl⟩:=ry;exact PySem.W.eq_bytes (fin_bl I q dec_byt)
  | _=>exact absurd (show false=true from hs) Bool.false_ne_true
 | _=>cases y<;>exact absurd (show false=true from hs) Bool.false_ne_true
theorem op_ne:OpR X (compareOp .NotEq) rNe:=by
 intro pins s σ H x y v u Q I rx ry h
 obtain ⟨hs,q⟩:=h
 cases x with
 | non=>
  cases rx
  cases y with
  | non=>cases ry;exact PySem.EqNone.ne_none_none (fin_bl I q (by simp))
  | bl j=>cases ry;exact PySem.EqNone.ne_none_bool (fin_bl I q (by simp))
  | int j=>obtain ⟨t',rfl⟩:=ry;exact PySem.EqNone.ne_none_int (fin_bl I q (by simp))
  | str j=>obtain ⟨t',rfl⟩:=ry;exact PySem.EqNone.ne_none_str (fin_bl I q (by simp))
  | _=>exact absurd (show false=true from hs) Bool.false_ne_true
 | bl i=>
  cases rx
  cases y with
  | non=>cases ry;exact PySem.EqNone.ne_bool_none (fin_bl I q (by simp))
  | bl j=>cases ry;exact ne_bool (fin_bl I q (congrArg not dec_bl))
  | str j=>obtain ⟨t',rfl⟩:=ry;exact PySem.EqMixed.ne_bool_str (fin_bl I q (by simp))
  | _=>exact absurd (show false=true from hs) Bool.false_ne_true
 | int i=>
  obtain ⟨t,rfl⟩:=rx
  cases y with
  | non=>cases ry;exact PySem.EqNone.ne_int_none (fin_bl I q (by simp))
  | int j=>obtain ⟨t',rfl⟩:=ry;exact ne_int (fin_bl I q (congrArg not dec_int))
  | str j=>obtain ⟨t',rfl⟩:=ry;exact PySem.EqMixed.ne_int_str (fin_bl I q (by simp))
  | _=>exact absurd (show false=true from hs) Bool.false_ne_true
 | str i=>
  obtain ⟨t,rfl⟩:=rx
  cases y with
  | non=>cases ry;exact PySem.EqNone.ne_str_none (fin_bl I q (by simp))
  | bl j=>cases ry;exact PySem.EqMixed.ne_str_bool (fin_bl I q (by simp))
  | int j=>obtain ⟨t',rfl⟩:=ry;exact PySem.EqMixed.ne_str_int (fin_bl I q (by simp))
  | str j=>obtain ⟨t',rfl⟩:=ry;exact ne_str (fin_bl I q (congrArg not dec_str))
  | _=>exact absurd (show false=true from hs) Bool.false_ne_true
 | byt i=>
  obtain ⟨t,rfl⟩:=rx
  cases y with
  | byt j=>obtain ⟨t',rfl⟩:=ry;exact PySem.W.ne_bytes (fin_bl I q (congrArg not dec_byt))
  | _=>exact absurd (show false=true from hs) Bool.false_ne_true
 | _=>cases y<;>exact absurd (show false=true from hs) Bool.false_ne_true
theorem op_lt:OpR X (compareOp .Lt) (rI0 fun i j=>.bl (decide (i<j))):=opB0 fun _ _ _ _ _ _ _ q=>lt_int q
theorem op_le:OpR X (compareOp .LtE) (rI0 fun i j=>.bl (decide (i<=j))):=opB0 fun _ _ _ _ _ _ _ q=>le_int q
theorem op_gt:OpR X (compareOp .Gt) (rI0 fun i j=>.bl (decide (j<i))):=opB0 fun _ _ _ _ _ _ _ q=>gt_int q
theorem op_ge:OpR X (compareOp .GtE) (rI0 fun i j=>.bl (decide (j<=i))):=opB0 fun _ _ _ _ _ _ _ q=>ge_int q
theorem OpR.or {f:Value->Value->Sem Value} {r r':R2} (h:OpR X f r) (h':OpR X f r'):OpR X f (fun x y H Q=>r x y H Q\/r' x y H Q):=by
 intro pins s σ H x y v u Q I rx ry q
 rcases q with q|q
 ·exact h pins s σ H x y v u Q I rx ry q
 ·exact h' pins s σ H x y v u Q I rx ry q
theorem nomark (b:Expr) {op:CmpOp} (h:op≠.In:=by decide) (h2:op≠.NotIn:=by decide):behindInMarks op b=false:=by
 have e1:(op == CmpOp.In)=false:=by cases op<;>first|rfl|exact absurd rfl h
 have e2:(op == CmpOp.NotIn)=false:=by cases op<;>first|rfl|exact absurd rfl h2
 cases b<;>simp [behindInMarks,e1,e2]
theorem pe_cmpR {op:CmpOp} {r:R2} (ho:OpR X (compareOp op) r) (ha:PE X a ta) (hb:PE X b tb) (hm:behindInMarks op b=false):PE X (.Compare a [op] [b] pos) (tOp r ta tb):=by
 intro pins s σ H Q I h
 exact wpAny_Compare1 (binT ha hb I h fun v u s2 x y H2 I2 rx ry q=>ho pins s2 σ H2 x y v u Q I2 rx ry q) hm
def tTest (t:TE):TT:=fun σ H Q=>t σ H fun x H'=>∃k,x=.bl k/\Q k H'
theorem pt_cmpR {op:CmpOp} {r:R2} (ho:OpR X (compareOp op) r) (ha:PE X a ta) (hb:PE X b tb) (hm:behindInMarks op b=false):PT X (.Compare a [op] [b] pos) (tTest (tOp r ta tb)):=by
 intro pins s σ H Q I h
 refine wpAny_isTrue_Compare1 (thn (ha pins s σ H _ I h) fun v s1 ⟨x,H1,I1,r1,q1⟩=>thn (hb pins s1 σ H1 _ I1 q1) fun u s2 ⟨y,H2,I2,r2,q2⟩=>
  thn (ho pins s2 σ H2 x y v u _ I2 r1 r2 q2) fun c s3 ⟨z,H3,I3,r3,k,e,q3⟩=>?_) hm
 subst e
 cases r3
 exact wpAny_truthy_bool ⟨H3,I3,q3⟩
def tChain (r r':R2) (ta tb tc:TE):TE:=fun σ H Q=>ta σ H fun x H1=>tb σ H1 fun y H2=>r x y H2 fun z H3=>∃k,z=.bl k /\
 (if k=true then tc σ H3 fun w' H4=>r' y w' H4 Q else Q (.bl false) H3)
theorem pt_chain {op op':CmpOp} {r r':R2} (ho:OpR X (compareOp op) r) (ho':OpR X (compareOp op') r') (ha:PE X a ta) (hb:PE X b tb) (hc:PE X c tc)
  (hm:lastMarks [op,op'] [b,c]=false:=by with_unfolding_all rfl):PT X (.Compare a [op,op'] [b,c] pos) (tTest (tChain r r' ta tb tc)):=by
 intro pins s σ H Q I h
 refine isTrue_chain (thn (ha pins s σ H _ I h) fun v s1 ⟨x,H1,I1,r1,q1⟩=>test_link (thn (hb pins s1 σ H1 _ I1 q1) fun u s2 ⟨y,H2,I2,r2,q2⟩=>
  thn (ho pins s2 σ H2 x y v u _ I2 r1 r2 q2) fun d s3 ⟨z,H3,I3,r3,k,e,q3⟩=>?_)) hm
 subst e
 cases r3
 refine wpAny_truthy_bool ?_
 cases k with
 | false=>
  obtain ⟨k',e',q'⟩:=q3
  cases e'
  exact ite_ff ⟨H3,I3,q'⟩
 | true=>
  refine ite_tt (test_last (thn (hc pins s3 σ H3 _ I3 q3) fun w' s4 ⟨z',H4,I4,r4,q4⟩=>thn (ho' pins s4 σ H4 y z' u w' _ I4 r2 r4 q4) fun d' s5 ⟨z2,H5,I5,r5,k2,e2,q5⟩=>?_))
  subst e2
  cases r5
  exact wpAny_truthy_bool ⟨H5,I5,q5⟩
theorem line63:(sizeLine:Nat)<2 ^ 63:=by rw [sizeLine_eq];decide
theorem vals1 {x:V} {us:List Value} (r:Vals [x] us):∃u,us=[u]/\RelV x u:=by
 cases r with
 | cons r1 r2=>cases r2;exact ⟨_,rfl,r1⟩
theorem vals2 {x y:V} {us:List Value} (r:Vals [x,y] us):∃u w',us=[u,w']/\RelV x u/\RelV y w':=by
 cases r with
 | cons r1 r2=>
  cases r2 with
  | cons r3 r4=>cases r4;exact ⟨_,_,rfl,r1,r3⟩
theorem call_max2 (hc:X.calm=true):CallR X (.builtin "max") (fun xs H Q=>∃i j,xs=[.int i,.int j]/\Q (.int (if j > i then j else i)) H):=by
 intro pins s σ H xs us Q I r h
 obtain ⟨i,j,rfl,q⟩:=h
 obtain ⟨u,w',rfl,⟨t,rfl⟩,⟨t',rfl⟩⟩:=vals2 r
 refine max_two_ints (I.ok.hd hc) fun h' tk k=>⟨_,H,I.kept k,?_,q⟩
 by_cases hj:j > i
 ·rw [if_pos hj,if_pos hj];exact ⟨_,rfl⟩
 ·rw [if_neg hj,if_neg hj];exact ⟨_,rfl⟩
theorem call_min2 (hc:X.calm=true):CallR X (.builtin "min") (fun xs H Q=>∃i j,xs=[.int i,.int j]/\Q (.int (if j<i then j else i)) H):=by
 intro pins s σ H xs us Q I r h
 obtain ⟨i,j,rfl,q⟩:=h
 obtain ⟨u,w',rfl,⟨t,rfl⟩,⟨t',rfl⟩⟩:=vals2 r
 refine min_two_ints (I.ok.hd hc) fun h' tk k=>⟨_,H,I.kept k,?_,q⟩
 by_cases hj:j<i
 ·rw [if_pos hj,if_pos hj];exact ⟨_,rfl⟩
 ·rw [if_neg hj,if_neg hj];exact ⟨_,rfl⟩
theorem call_int1:CallR X (.type "int") (fun xs H Q=>(∃i,xs=[.int i]/\Q (.int i) H)\/∃k,xs=[.bl k]/\Q (.int (if k then 1 else 0)) H):=by
 intro pins s σ H xs us Q I r h
 rcases h with ⟨i,rfl,q⟩|⟨k,rfl,q⟩
 ·obtain ⟨u,rfl,t,rfl⟩:=vals1 r
  exact call_int_int ⟨.int i,H,I,⟨_,rfl⟩,q⟩
 ·obtain ⟨u,rfl,r1⟩:=vals1 r
  cases r1
  exact call_int_bool ⟨.int (if k then 1 else 0),H,I.tok _,⟨_,rfl⟩,q⟩
theorem call_divmod:CallR X (.builtin "divmod") (fun xs H Q=>∃i j,xs=[.int i,.int j]/\CDiv i j/\∀p,H p=none->Q (.ref p) (upd H p (.tup [.int (i / j),.int (i % j)]))):=by
 intro pins s σ H xs us Q I r h
 obtain ⟨i,j,rfl,⟨h1,h2⟩,q⟩:=h
 obtain ⟨u,w',rfl,⟨t,rfl⟩,⟨t',rfl⟩⟩:=vals2 r
 refine divmod_int (by omega) ?_ (.inl (PyProof.noPylong_small (by omega)))
 rw [Int.fdiv_eq_ediv_of_nonneg i (by omega),Int.fmod_eq_emod_of_nonneg i (by omega)]
 have hn:H s.heap.objs.size=none:=I.hok.fresh (Nat.le_refl _)
 refine ⟨.ref s.heap.objs.size,_,?_,rfl,q _ hn⟩
 refine I.laid (fun b o e=>Heap.get?_push_of_some _ e) (Nat.le_refl _) ⟨by simp only [List.length_cons,List.length_nil];rw [sizeLine_eq];decide,[.int (i / j) s.toks,.int (i % j) (s.toks+1)],.cons ⟨_,rfl⟩ (.cons ⟨_,rfl⟩ .nil),?_⟩
 exact ⟨_,Heap.get?_push_size s.heap rfl,rfl,0,rfl⟩
end
structure ObjM (h:Heap) (x dx C:Addr) (mA:Str->Option Value):Prop where
 obj:h.get? x=some (PySem.W.instObj C dx)
 ns:h.Ns1 dx mA
 ne:dx≠x
theorem lookIn_ns {h:Heap} {dx:Addr} {mA:Str->Option Value} (n:h.Ns1 dx mA):∃od,h.get? dx=some od/\∀name,PySem.W.lookIn name od=some (mA name):=by
 obtain ⟨o,es,ep,ho,hd,hk,_,hm⟩:=n
 refine ⟨o,ho,fun name=>?_⟩
 have e:=hm name
 unfold nsFind findBy at e
 rw [<-Array.find?_toList] at e
 unfold PySem.W.lookIn
 rw [hd]
 dsimp only
 split
 ·rename_i y q
  rw [q] at e
  exact congrArg some e
 ·rename_i q
  rw [q] at e
  have a:es.toList.any (·.refKey)=false:=by
   rw [List.any_eq_false]
   intro y hy
   obtain ⟨z,t,hkey⟩:=hk y (Array.mem_toList_iff.mp hy)
   simp [DictEntry.refKey,hkey]
  have a':¬es.toList.any (·.refKey)=true:=by rw [a];exact Bool.false_ne_true
  rw [if_neg a']
  exact congrArg some e
theorem ObjM.look {h:Heap} {x dx C:Addr} {mA:Str->Option Value} (I:ObjM h x dx C mA):∃od,PySem.W.InstAt h x (PySem.W.instObj C dx) C (some od)/\∀name,PySem.W.lookIn name od=some (mA name):=
 let ⟨od,ho,hl⟩:=lookIn_ns I.ns
 ⟨od,⟨I.obj,rfl,rfl,ho⟩,hl⟩
section
variable {prog:Program} {w:World} {A:Around} {E:Value->Shared->Prop} {s:Shared} {K:PySem.W.Frag} {x dx C f:Addr} {mA:Str->Option Value} {name:Str} {v:Value}
end
section
variable {P:Program} {w:World} {H H':Hp} {h h':Heap} {a C dx:Addr} {fs fs':List (Str × V)}
theorem ins_get (hok:HOk P w H h) (e:H a=some (.ins C dx fs)):∃mA,ObjM h a dx C mA/\(∀f,RelO (fs.lookup f) (mA f))/\PySem.Within mA (fs.map (·.1))/\fs.length<=1000/\H dx=some (.own a):=by
 obtain ⟨d,z,ne,ob,mA,n,r,q⟩:=(show ObjOk P w H h a (.ins C dx fs) from hok a _ e)
 exact ⟨mA,⟨ob,n,ne⟩,r,q,z,d⟩
end
structure Cls (K:PySem.W.Frag) (C:Addr):Prop where
 pg:PySem.W.plainGet K C Str.empty=true
 hd:PySem.W.hasDictIn K C=true
 po:PySem.W.plainOver K C=true
 sa:PySem.W.findIn K (.ref C) "__setattr__"=some (some (.builtin "object.__setattr__"))
theorem Cls.get {K:PySem.W.Frag} {C:Addr} (c:Cls K C) (f:Str):PySem.W.plainGet K C f=true:=c.pg
section
variable {X:Cx} {pins:List (Addr × Obj)} {σ:St} {H:Hp} {s:Shared} {a C dx:Addr} {fs:List (Str × V)} {f:Str} {v:V} {A:Around} {E:Value->Shared->Prop}
end
section
variable {X:Cx} {pins:List (Addr × Obj)} {σ:St} {H:Hp} {s:Shared} {A:Around} {E:Value->Shared->Prop} {Q:Value->Shared->Prop} {c:Value} {b:Bool}
inductive TyOf (K:PySem.W.Frag) (H:Hp):V->Value->Prop where
 | non:TyOf K H .non (.type "NoneType")
 | bl (x:Bool):TyOf K H (.bl x) (.type "bool")
 | int (i:Int):TyOf K H (.int i) (.type "int")
 | str (x:Str):TyOf K H (.str x) (.type "str")
 | flt (x:UInt64):TyOf K H (.flt x) (.type "float")
 | lst {a:Addr} {xs:List V} (e:H a=some (.lst xs)):TyOf K H (.ref a) (.type "list")
 | frz {a:Addr} {o:Obj} {xs:List V} (e:H a=some (.frz o (.lst xs))):TyOf K H (.ref a) (.type "list")
 | tup {a:Addr} {xs:List V} (e:H a=some (.tup xs)):TyOf K H (.ref a) (.type "tuple")
 | dK {a:Addr} {kvs:List (Key × V)} (e:H a=some (.dK kvs)):TyOf K H (.ref a) (.type "dict")
 | dT {a:Addr} {kvs:List (List Key × V)} (e:H a=some (.dT kvs)):TyOf K H (.ref a) (.type "dict")
 | ins {a C dx:Addr} {fs:List (Str × V)} (e:H a=some (.ins C dx fs)) (cl:Cls K C) (ha:PySem.W.findIn K (.ref C) "__class__"=some (some (.builtin "object.__class__")))
   (hn:PySem.W.specialIn K (.builtin "object.__class__") "__get__"=some (some (.builtin "getset_descriptor.__get__"))) (htk:PySem.W.takesIn K (.builtin "object.__class__")=some true)
   (hm:PySem.W.mroIn K C (.type "object")=some true):TyOf K H (.ref a) (.ref C)
end
structure Room (k:Nat) (A:Around):Prop where
 hd:A.handled=none
 dp:A.depth+3 * k+5<recursionLimit
 un:A.units+16 * k+200<cLine
 gd:A.guards=some []
theorem Room.mono {j k:Nat} {A:Around} (r:Room k A) (h:j<=k):Room j A:=⟨r.hd,by have:=r.dp;omega,by have:=r.un;omega,r.gd⟩
theorem Room.deeper {k:Nat} {A:Around} (r:Room (k+1) A) (env:Env):Room k (A.deeper env):=
 ⟨r.hd,by have:=r.dp;show A.depth+1+3 * k+5<_;omega,by have:=r.un;show A.units+3+16 * k+200<_;omega,r.gd⟩
theorem Room.depth {k:Nat} {A:Around} (r:Room k A):A.depth<recursionLimit:=by have:=r.dp;omega
theorem Room.units {k:Nat} {A:Around} (r:Room k A):A.units+64<cLine:=by have:=r.un;omega
def tNil:TA:=fun _ H Q=>Q [] H
def tCons (ta:TE) (tr:TA):TA:=fun σ H Q=>ta σ H fun x H1=>tr σ H1 fun xs H2=>Q (x::xs) H2
section
variable {X:Cx} {e:Expr} {es:List Expr} {te:TE} {t:TA} {pos:Pos}
theorem pa_nil:PA X [] tNil:=fun _ _ _ _ H Q I h=>Calls.spliced_nil ⟨[],H,I,.nil,h⟩
theorem pa_cons (ha:PE X e te) (hr:PA X es t) (hs:starEach (e::es) X.env=(false,eval e X.env)::starEach es X.env:=by rfl):PA X (e::es) (tCons te t):=by
 intro pos pins s σ H Q I h
 rw [hs]
 show wpAny _ _ (spliced ((false,eval e X.env)::backTo pos (starEach es X.env))) _ _ s
 refine Calls.spliced_cons (thn (ha pins s σ H _ I h) fun u s1 ⟨x,H1,I1,r1,q1⟩=>?_)
 exact thn (hr pos pins s1 σ H1 _ I1 q1) fun us s2 zq=>by obtain ⟨xs,H2,I2,r2,q2⟩:=zq;exact ⟨x::xs,H2,I2,.cons r1 r2,q2⟩
def tTup (t:TA):TE:=fun σ H Q=>t σ H fun xs H1=>xs.length<=sizeLine/\∀p,H1 p=none->Q (.ref p) (upd H1 p (.tup xs))
def tLst (t:TA):TE:=fun σ H Q=>t σ H fun xs H1=>xs.length<=sizeLine/\∀p,H1 p=none->Q (.ref p) (upd H1 p (.lst xs))
theorem pe_tup {x1} (h:PA X es t):PE X (.Tuple es x1 pos) (tTup t):=by
 intro pins s σ H Q I hq
 refine wpAny_Tuple_spliced (thn (h pos pins s σ H _ I hq) fun us s1 ⟨xs,H1,I1,r,z,q⟩=>⟨by rw [<-r.length];exact z,?_⟩)
 have hf:H1 s1.heap.objs.size=none:=I1.hok.fresh (Nat.le_refl _)
 refine ⟨.ref s1.heap.objs.size,upd H1 s1.heap.objs.size (.tup xs),I1.laid (t':=s1.toks) (fun b u e=>Heap.get?_push_of_some _ e) (Nat.le_refl _) ?_,rfl,q _ hf⟩
 exact ⟨z,us,r,⟨_,Heap.get?_push_size _ rfl,rfl,_,rfl⟩⟩
theorem pe_lst (h:PA X es t):PE X (.List es pos) (tLst t):=by
 intro pins s σ H Q I hq
 refine wpAny_List_spliced (thn (h pos pins s σ H _ I hq) fun us s1 ⟨xs,H1,I1,r,z,q⟩=>⟨by rw [<-r.length];exact z,?_⟩)
 have hf:H1 s1.heap.objs.size=none:=I1.hok.fresh (Nat.le_refl _)
 refine ⟨.ref s1.heap.objs.size,upd H1 s1.heap.objs.size (.lst xs),I1.laid (t':=s1.toks) (fun b u e=>Heap.get?_push_of_some _ e) (Nat.le_refl _) ?_,rfl,q _ hf⟩
 exact ⟨z,us,0,r,Heap.get?_push_size _ rfl⟩
end
abbrev Sp:=List V->Hp->VK->XK->Prop
abbrev CXT:=List Env->Hp->Shared->XK->Value->Shared->Prop
structure Env0 (P:Program) (w:World) (K:PySem.W.Frag) (mg:Str->Option Value) (base:Heap) (A:Around) (outer:List Env) (s:Shared) (H:Hp):Prop where
 frames:A.frames=some outer
 mod:Mod K mg base
 bs:∀b o,base.get? b=some o->s.heap.get? b=some o/\H b=none
 bsz:base.objs.size<=s.heap.objs.size
 funs:s.heap.FunFrames base outer
 frf:∀b∈frs outer,H b=none
 hok:HOk P w H s.heap
 bare:AllBare s.gens
def CE (outer:List Env) (P:Program) (w:World) (H:Hp) (s:Shared) (Q:VK) (u:Value) (s':Shared):Prop:=
 ∃v H',s'.os=s.os/\AllBare s'.gens/\Un (frs outer) [] H H' s.heap s'.heap/\HOk P w H' s'.heap/\RelV v u/\Q v H'
def CR (CX:CXT) (outer:List Env) (P:Program) (w:World) (H:Hp) (s:Shared) (Q:VK) (E:XK) (r:Result) (s':Shared):Prop:=
 match r with
 | .ok (.ret u)=>CE outer P w H s Q u s'
 | .ok _=>False
 | .error e=>CX outer H s E e s'
structure FnOk (P:Program) (w:World) (K:PySem.W.Frag) (mg:Str->Option Value) (base:Heap) (CX:CXT) (k:Nat) (f:Addr) (fd:FuncData) (ps:List Str) (sp:Sp):Prop where
 len:∀vs H Q E,sp vs H Q E->vs.length=ps.length
 run:∀(A:Around) (outer:List Env) (s:Shared) (H:Hp) (args:Args) (us:List Value) (vs:List V) (Q:VK) (E:XK),Room k A->Env0 P w K mg base A outer s H->BindsTo s fd args (ps.zip us)->Vals vs us->sp vs H Q E->
  codeAny (model P w) A (.call (.ref f) args) (CR CX outer P w H s Q E) s
theorem FnOk.imp {P:Program} {w:World} {K:PySem.W.Frag} {mg:Str->Option Value} {base:Heap} {CX:CXT} {k:Nat} {f:Addr} {fd:FuncData} {ps:List Str} {sp sp':Sp} (F:FnOk P w K mg base CX k f fd ps sp)
  (h:∀vs H Q E,sp' vs H Q E->sp vs H Q E):FnOk P w K mg base CX k f fd ps sp':=
 ⟨fun vs H Q E q=>F.len vs H Q E (h _ _ _ _ q),fun A outer s H args us vs Q E hr he hb hv hs=>F.run A outer s H args us vs Q E hr he hb hv (h _ _ _ _ hs)⟩
section
variable {X:Cx} {pins:List (Addr × Obj)} {σ:St} {H:Hp} {s s':Shared}
theorem Inv.env0 (I:Inv X pins σ H s):Env0 X.prog X.w X.K X.mg X.base X.A X.stack s H:=
 ⟨I.ok.frames,I.ok.mod,I.bs,Nat.le_trans I.ok.bsz I.sz,I.stack,I.stkFree,I.hok,I.bare⟩
theorem Inv.after {Q:VK} {u:Value} (I:Inv X pins σ H s) (h:CE X.stack X.prog X.w H s Q u s'):EP X pins σ Q u s':=by
 obtain ⟨v,H',os,bare,un,hok,r,q⟩:=h
 obtain ⟨hh,g,d,t,os'⟩:=s'
 obtain rfl:os'=s.os:=os
 exact ⟨v,H',I.call (h':=hh) (g':=g) (d':=d) (t':=t) (ch:=[]) un hok bare (fun b z=>absurd z (by simp)),r,q⟩
end
def tCall (sp:Sp) (dvs:List V) (E:XK) (t:TA):TE:=fun σ H Q=>t σ H fun vs H1=>sp (vs++dvs) H1 Q E
def Binds (K:PySem.W.Frag) (fd:FuncData) (ps:List Str) (ds:List Value):Prop:=
 ∀(s:Shared) (us:List Value),K.In s.heap->(us++ds).length=ps.length->BindsTo s fd ⟨us,[]⟩ (ps.zip (us++ds))
theorem Binds.all {K:PySem.W.Frag} {fd:FuncData} {ps:List Str} (h:∀us:List Value,us.length=ps.length->bindArgs fd ⟨us,[]⟩=pure (ps.zip us)):Binds K fd ps []:=fun s us _ hl=>by
 rw [List.append_nil] at hl ⊢
 exact .of_eq (h us hl)
def Passes (CX:CXT) (X:Cx) (E:XK):Prop:=∀(pins:List (Addr × Obj)) (σ:St) (H:Hp) (s:Shared) (e:Value) (s':Shared),Inv X pins σ H s->CX X.stack H s E e s'->X.xe e s'
section
variable {X:Cx} {CX:CXT} {k:Nat} {f C:Addr} {fd:FuncData} {ps:List Str} {sp:Sp} {dvs:List V} {ds:List Value} {E:XK} {x m:Str} {p pos apos:Pos} {e o:Expr} {es:List Expr} {ta:TE} {t:TA}
theorem run_fn {pins:List (Addr × Obj)} {σ:St} {H:Hp} {s:Shared} {Q:VK} {us:List Value} {vs:List V} (F:FnOk X.prog X.w X.K X.mg X.base CX k f fd ps sp) (hr:Room k X.A) (hb:Binds X.K fd ps ds) (hd:Vals dvs ds) (hx:Passes CX X E)
  (I:Inv X pins σ H s) (r:Vals vs us) (h:sp (vs++dvs) H Q E):wpAny (model X.prog X.w) X.A (call (.ref f) us) (EP X pins σ Q) X.xe s:=by
 have r2:Vals (vs++dvs) (us++ds):=r.append hd
 have hl:(us++ds).length=ps.length:=by rw [<-r2.length];exact F.len _ _ _ _ h
 refine wpAny_call (codeAny_mono (F.run X.A X.stack s H ⟨us,[]⟩ (us++ds) (vs++dvs) Q E hr I.env0 (hb s us I.kIn hl) r2 h) fun r s' hq=>?_)
 cases r with
 | error e=>exact hx pins σ H s e s' I hq
 | ok fl=>
  cases fl with
  | ret u=>exact I.after hq
  | next=>exact False.elim hq
  | brk=>exact False.elim hq
  | cont=>exact False.elim hq
theorem pe_call (F:FnOk X.prog X.w X.K X.mg X.base CX k f fd ps sp) (hr:Room k X.A) (hg:Gl X x) (hm:X.mg x=some (.ref f)) (hk:PySem.W.keepIn X.K (.ref f)=true) (hb:Binds X.K fd ps ds) (hd:Vals dvs ds) (hx:Passes CX X E)
  (ha:PA X (e::es) t) (hdb:(x == ("__debug__":Str))=false:=by decide) (he:starEach (e::es) X.env=(false,eval e X.env)::starEach es X.env:=by rfl) (hpl:(backTo pos (starEach es X.env)).any (·.1)=false:=by rfl) :
  PE X (.Call (.Name x p) (e::es) [] pos) (tCall sp dvs E t):=by
 intro pins s σ H Q I h
 refine wpAny_Call_Name_kw (ld_glob I hg hm ?_ hdb)
 refine PySem.W.callWith_K (h₀:=X.base) I.ok.mod.kin hk (thn (ha pos pins s σ H _ I h) fun us s1 ⟨vs,H1,I1,r,q⟩=>⟨I1.kIn,?_⟩) he hpl
 exact run_fn F hr hb hd hx I1 r q
end
structure FnScope (N P:List Str) (sc:Scope):Prop where
 kind:sc.kind=.function
 co:sc.isCoroutine=false
 gen:sc.isGenerator=false
 nd:N.Nodup
 pre:N.take P.length=P
 par:∀x∈P,sc.names.lookup x=some .local\/sc.names.lookup x=some .cell
 nofree:∀y∈sc.names,y.2≠.free
theorem bindL_out {kindOf:Str->Option NameKind} {x:Str}:∀{binds:List (Str × Value)} {m:Str->Option Value},(∀v,(x,v) ∉ binds)->bindL kindOf binds m x=m x
 | [],_,_=>rfl
 | (n,v)::r,m,h=>by
  unfold bindL
  rw [bindL_out fun w hw=>h w (List.mem_cons_of_mem _ hw)]
  split
  ·have:x≠n:=by rintro rfl;exact h v List.mem_cons_self
   simp [this]
  ·rfl
theorem bindC_out {kindOf:Str->Option NameKind} {x:Str}:∀{binds:List (Str × Value)} {m:Str->Option Value},(∀v,(x,v) ∉ binds)->bindC kindOf binds m x=m x
 | [],_,_=>rfl
 | (n,v)::r,m,h=>by
  unfold bindC
  rw [bindC_out fun w hw=>h w (List.mem_cons_of_mem _ hw)]
  split
  ·rfl
  ·have:x≠n:=by rintro rfl;exact h v List.mem_cons_self
   simp [this]
theorem bindL_get {kindOf:Str->Option NameKind} {x:Str} {v:Value}:∀{P:List Str} {vs:List Value} {i:Nat} {m:Str->Option Value},P.Nodup->P[i]? = some x->vs[i]? = some v->kindOf x=some .local->
  bindL kindOf (P.zip vs) m x=some v
 | [],_,_,_,_,h,_,_=>by simp at h
 | _::_,[],_,_,_,_,h,_=>by simp at h
 | p::P,w::vs,0,m,nd,h1,h2,hk=>by
  simp at h1 h2;subst h1;subst h2
  show bindL kindOf ((p,w)::P.zip vs) m p=_
  unfold bindL
  rw [bindL_out fun v hv=>(List.nodup_cons.mp nd).1 (List.of_mem_zip hv).1,if_pos hk]
  simp
 | p::P,w::vs,i+1,m,nd,h1,h2,hk=>by
  show bindL kindOf ((p,w)::P.zip vs) m x=_
  unfold bindL
  exact bindL_get (i:=i) (List.nodup_cons.mp nd).2 (by simpa using h1) (by simpa using h2) hk
theorem bindC_get {kindOf:Str->Option NameKind} {x:Str} {v:Value}:∀{P:List Str} {vs:List Value} {i:Nat} {m:Str->Option Value},P.Nodup->P[i]? = some x->vs[i]? = some v->kindOf x≠some .local->
  bindC kindOf (P.zip vs) m x=some v
 | [],_,_,_,_,h,_,_=>by simp at h
 | _::_,[],_,_,_,_,h,_=>by simp at h
 | p::P,w::vs,0,m,nd,h1,h2,hk=>by
  simp at h1 h2;subst h1;subst h2
  show bindC kindOf ((p,w)::P.zip vs) m p=_
  unfold bindC
  rw [bindC_out fun v hv=>(List.nodup_cons.mp nd).1 (List.of_mem_zip hv).1,if_neg hk]
  simp
 | p::P,w::vs,i+1,m,nd,h1,h2,hk=>by
  show bindC kindOf ((p,w)::P.zip vs) m x=_
  unfold bindC
  exact bindC_get (i:=i) (List.nodup_cons.mp nd).2 (by simpa using h1) (by simpa using h2) hk
def start (N:List Str) (vs:List V):St:=vs.map some++List.replicate (N.length - vs.length) none
def cxOf (CX:CXT) (P:Program) (w:World) (K:PySem.W.Frag) (mg:Str->Option Value) (base:Heap) (N:List Str) (qual:Str) (scope:Scope) (f:Addr) (cd:Value) (A:Around) (outer:List Env) (s:Shared) (H:Hp) (E:XK):Cx where
 prog:=P
 w:=w
 K:=K
 mg:=mg
 base:=base
 A:=A.deeper (envOfC qual scope s.heap.objs.size f cd)
 N:=N
 s₀:=s
 H₀:=H
 env:=envOfC qual scope s.heap.objs.size f cd
 outer:=outer
 stack:=envOfC qual scope s.heap.objs.size f cd::outer
 ex:=[]
 calm:=true
 fn:=fun _=>true
 pn:=[]
 xe:=fun e s'=>wpAny (model P w) (A.deeper (envOfC qual scope s.heap.objs.size f cd)) (leaving (envOfC qual scope s.heap.objs.size f cd) e) (fun _ s''=>CX outer H s E e s'') (fun e' s''=>CX outer H s E e' s'') s'
theorem cell_has {sc:Scope} {n:Nat} {x:Str} (h:sc.names.lookup x=some .cell):∃c,(cellsFrom n sc.names []).lookup x=some c:=by
 have q:=PySem.W.cellsFrom_some sc.names n [] (.inl h)
 exact Option.isSome_iff_exists.mp q
theorem inv_start {CX:CXT} {P:Program} {w:World} {K:PySem.W.Frag} {mg:Str->Option Value} {base:Heap} {N ps:List Str} {qual:Str} {scope:Scope} {f:Addr} {cd:Value} {A:Around} {outer:List Env} {s s1:Shared} {H:Hp} {E:XK} {us:List Value} {vs:List V}
  (S:FnScope N ps scope) (hd:A.handled=none) (e0:Env0 P w K mg base A outer s H) (hl:vs.length=ps.length) (r:Vals vs us)
  (x:InCallC s s.heap.objs.size (bindL (envOfC qual scope s.heap.objs.size f cd).kindOf (ps.zip us) fun _=>none) (cellsFrom (s.heap.objs.size+1) scope.names []) (bindC (envOfC qual scope s.heap.objs.size f cd).kindOf (ps.zip us) fun _=>none) s1) :
  Inv (cxOf CX P w K mg base N qual scope f cd A outer s H E) [] (start N vs) H s1:=by
 have hpl:ps.length<=N.length:=by have:=congrArg List.length S.pre;rw [List.length_take] at this;omega
 obtain ⟨h1,tk,rfl,hk⟩:=x.done
 have noA:∀b:Addr,b ∉ (cxOf CX P w K mg base N qual scope f cd A outer s H E).ex:=fun b z=>absurd (show b∈([]:List Addr) from z) (by simp)
 refine ⟨⟨e0.mod,S.kind,rfl,rfl,Nat.le_refl _,fun y z c h1 h2=>?_,fun y hy=>?_,fun y c _ h=>?_,fun _=>hd,Around.frames_deeper e0.frames,.inr ⟨rfl,rfl⟩,fun b z=>absurd z (noA b),e0.bs,e0.bsz,fun b _ _=>noA b,fun b z=>absurd z (noA b),e0.funs,e0.frf⟩,
  rfl,e0.bare,Un.kept hk,⟨_,x.toInCall.ns,fun i y v h1 h2 h3=>?_⟩,fun y c h=>⟨_,x.cell y c h⟩,e0.hok.fresh (Nat.le_refl _),fun y c h=>?_,fun p hp=>absurd (show p∈([]:List (Addr × Obj)) from hp) (by simp),e0.hok.kept hk,?_⟩
 ·exact name_of_addr x.apart (PySem.mem_of_lookup h1) (PySem.mem_of_lookup h2)
 ·have hy:scope.names.lookup y=some .cell\/scope.names.lookup y=some .free:=hy
  rcases hy with hy|hy
  ·exact cell_has hy
  ·exact absurd rfl (S.nofree _ (PySem.mem_of_lookup hy))
 ·exact Nat.le_of_lt (x.above y c (PySem.mem_of_lookup h))
 ·have hi:i<vs.length:=by
   unfold start at h2
   by_cases hi:i<vs.length
   ·exact hi
   ·rw [List.getElem?_append_right (by simpa using hi)] at h2
    rw [List.getElem?_replicate] at h2
    split at h2<;>cases h2
  have ha:vs[i]? = some v:=by
   unfold start at h2
   rw [List.getElem?_append_left (by simpa using hi),List.getElem?_map] at h2
   cases e:vs[i]? with
   | none=>rw [e] at h2;cases h2
   | some a=>rw [e] at h2;cases h2;rfl
  obtain ⟨u,hu,rv⟩:=r.get ha
  have hp:ps[i]? = some y:=by
   rw [<-S.pre,List.getElem?_take_of_lt (by omega)];exact h1
  have ndP:ps.Nodup:=by rw [<-S.pre];exact S.nd.sublist (List.take_sublist _ _)
  refine ⟨u,rv,?_⟩
  rcases S.par y (List.mem_of_getElem? hp) with k|k
  ·exact .inl ⟨k,bindL_get ndP hp hu k⟩
  ·obtain ⟨c,e⟩:=cell_has (n:=s.heap.objs.size+1) k
   refine .inr ⟨.inl k,c,e,?_⟩
   have q:=x.cell y c e
   rw [bindC_get ndP hp hu (by show scope.names.lookup y≠_;rw [k];decide)] at q
   exact q
 ·exact e0.hok.fresh (Nat.le_of_lt (x.above y c (PySem.mem_of_lookup h)))
 ·unfold start
  show _=N.length
  rw [List.length_append,List.length_map,List.length_replicate]
  omega
theorem fn_of {CX:CXT} {P:Program} {w:World} {K:PySem.W.Frag} {mg:Str->Option Value} {base:Heap} {k:Nat} {f:Addr} {name qual:Str} {params:Arguments} {body:List Stmt} {scope:Scope} {dV kV doc pm cdv ct oc:Value} {an od:Option Addr}
  {osl:Array (Option Value)} {N ps:List Str} {sp:Sp} (lk:K.lookup f=some ⟨oc,od,.func (PySem.W.fnOf name qual params body scope dV kV doc pm an cdv ct),osl⟩) (hcd:PySem.W.codeIn K cdv qual=true) (S:FnScope N ps scope)
  (len:∀vs H Q E,sp vs H Q E->vs.length=ps.length)
  (hbody:∀(A:Around) (outer:List Env) (s:Shared) (H:Hp) (vs:List V) (Q:VK) (E:XK),Room k (A.deeper (envOfC qual scope s.heap.objs.size f cdv))->sp vs H Q E->
   ∃t,PSs (cxOf CX P w K mg base N qual scope f cdv A outer s H E) body t/\t { nx:=fun _ H'=>Q .non H',rt:=Q } (start N vs) H) :
  FnOk P w K mg base CX (k+1) f (PySem.W.fnOf name qual params body scope dV kV doc pm an cdv ct) ps sp:=by
 refine ⟨len,fun A outer s H args us vs Q E hr e0 hb r hsp=>?_⟩
 have hl:=len _ _ _ _ hsp
 have KX:K.In s.heap:=e0.mod.kin.keeps fun b o e=>(e0.bs b o e).1
 have lim:s.heap.NoLimit:=e0.mod.nolimit.keeps fun b o e=>(e0.bs b o e).1
 have hkind:∀y∈ps.zip us,scope.names.lookup y.1=some .local\/(scope.names.lookup y.1=some .cell/\((cellsFrom (s.heap.objs.size+1) scope.names []).lookup y.1).isSome=true):=fun ⟨n,v⟩ hy=>by
  rcases S.par n (List.of_mem_zip hy).1 with q|q
  ·exact .inl q
  ·exact .inr ⟨q,PySem.W.cellsFrom_some _ _ _ (.inl q)⟩
 refine codeAny_call_function hr.depth (KX _ _ lk) rfl S.co S.gen rfl (PySem.W.codeRec_of KX hcd) (hb _ _ _ _ ?_)
 refine wpAny_newFunctionEnv_cells S.kind hkind fun env he s1 x=>?_
 subst he
 refine ⟨lim.keeps x.toInCall.keep,codeAny_func ?_⟩
 obtain ⟨t,ht,hq⟩:=hbody A outer s H vs Q E (hr.deeper _) hsp
 have I:Inv (cxOf CX P w K mg base N qual scope f cdv A outer s H E) [] (start N vs) H s1:=inv_start S hr.hd e0 hl r x
 refine wpAny_mono (ht [] s1 (start N vs) H _ I hq) (fun fl s' hs=>?_) fun e s' hs=>hs
 have fin:∀{σ':St} {H':Hp} {v:V} {u:Value},Inv (cxOf CX P w K mg base N qual scope f cdv A outer s H E) [] σ' H' s'->RelV v u->Q v H'->CE outer P w H s Q u s':=
  fun {σ' H' v u} J rv q=>⟨v,H',J.os,J.bare,J.base,J.hok,rv,q⟩
 cases fl with
 | ret u=>
  obtain ⟨v,σ',H',J,rv,q⟩:=hs
  exact fin J rv q
 | next=>
  obtain ⟨σ',H',J,q⟩:=hs
  exact fin (v:=V.non) (u:=Value.none) J rfl q
 | brk=>
  obtain ⟨_,_,_,q⟩:=hs
  exact False.elim q
 | cont=>
  obtain ⟨_,_,_,q⟩:=hs
  exact False.elim q
section
variable {X:Cx} {x:Str} {p pos:Pos} {e:Expr} {es:List Expr} {t:TA} {id T:String} {r:List V->Hp->VK->Prop}
def tCB (r:List V->Hp->VK->Prop) (t:TA):TE:=fun σ H Q=>t σ H fun vs H1=>r vs H1 Q
theorem pe_callB (hc:CallR X (.builtin id) r) (hg:Gl X x) (hm:X.mg x=none) (hv:bootBuiltins x=some (.builtin id)) (ha:PA X (e::es) t) (hn:x≠"__name__":=by decide) (hdb:(x == ("__debug__":Str))=false:=by decide)
  (he:starEach (e::es) X.env=(false,eval e X.env)::starEach es X.env:=by rfl) (hpl:(backTo pos (starEach es X.env)).any (·.1)=false:=by rfl):PE X (.Call (.Name x p) (e::es) [] pos) (tCB r t):=by
 intro pins s σ H Q I h
 refine wpAny_Call_Name_kw (ld_blt I hg hm hv ?_ hn hdb)
 exact PyProof.Rows.callWith_builtin1 (thn (ha pos pins s σ H _ I h) fun us s1 zq=>by obtain ⟨vs,H1,I1,r1,q1⟩:=zq;exact hc pins s1 σ H1 vs us Q I1 r1 q1) he hpl
theorem pe_callTy (hc:CallR X (.type T) r) (hg:Gl X x) (hm:X.mg x=none) (hv:bootBuiltins x=some (.type T)) (ha:PA X (e::es) t) (hn:x≠"__name__":=by decide) (hdb:(x == ("__debug__":Str))=false:=by decide)
  (he:starEach (e::es) X.env=(false,eval e X.env)::starEach es X.env:=by rfl) (hpl:(backTo pos (starEach es X.env)).any (·.1)=false:=by rfl):PE X (.Call (.Name x p) (e::es) [] pos) (tCB r t):=by
 intro pins s σ H Q I h
 refine wpAny_Call_Name_kw (ld_blt I hg hm hv ?_ hn hdb)
 exact PyProof.Rows.callWith_type1 (thn (ha pos pins s σ H _ I h) fun us s1 zq=>by obtain ⟨vs,H1,I1,r1,q1⟩:=zq;exact hc pins s1 σ H1 vs us Q I1 r1 q1) he hpl
end
end L2
namespace HT
open PySem PyProof.Rows
section
open PySem.SeqAt
open PySem.AutoSeq1 (wpAny_loadPart')
open PySem.MeetsSeq PySem.MeetsSeq2 PySem.MeetsSeq3
end
section
variable {prog:Program} {w:World} {A:Around} {E:Value->Shared->Prop} {s:Shared}
def sIx (n d:Nat):Option Int->Nat
 | none=>d
 | some v=>if v<0 then (v+(n:Int)).toNat else min v.toNat n
theorem sIx_none (n d:Nat):sIx n d none=d:=rfl
theorem sIx_nat (n d k:Nat):sIx n d (some (k:Int))=min k n:=by
 show (if (k:Int)<0 then ((k:Int)+(n:Int)).toNat else min (k:Int).toNat n)=min k n
 rw [if_neg (by omega),Int.toNat_natCast]
end
end HT
namespace L2
open PySem PySem.Spec PyProof.Rows
abbrev TO:=St->Hp->(Option Int->Hp->Prop)->Prop
def PO (X:Cx) (e:Option Expr) (t:TO):Prop:=
 ∀(pins:List (Addr × Obj)) (s:Shared) (σ:St) (H:Hp) (Q:Option Int->Hp->Prop),Inv X pins σ H s->t σ H Q->
  wpAny (model X.prog X.w) X.A (evalPart e X.env) (fun u s'=>∃o H',Inv X pins σ H' s'/\IsPart u o/\Q o H') X.xe s
def tNoPart:TO:=fun _ H Q=>Q none H
def tPart (t:TE):TO:=fun σ H Q=>t σ H fun x H1=>∃i,x=.int i/\Q (some i) H1
section
variable {X:Cx} {e:Expr} {te:TE} {lo hi:Option Expr} {tl th:TO} {pos p2:Pos}
theorem po_none:PO X none tNoPart:=by
 intro pins s σ H Q I h
 rw [evalPart_none]
 exact wpAny_pure ⟨none,H,I,.none,h⟩
theorem po_some (h:PE X e te):PO X (some e) (tPart te):=by
 intro pins s σ H Q I hw
 rw [evalPart_some]
 refine thn (h pins s σ H _ I hw) fun u s1 ⟨x,H1,I1,r1,q1⟩=>?_
 obtain ⟨i,rfl,q⟩:=q1
 obtain ⟨t,rfl⟩:=r1
 exact ⟨some i,H1,I1,.int i t,q⟩
def SlR (X:Cx) (r:V->Option Int->Option Int->Hp->VK->Prop):Prop:=
 ∀(pins:List (Addr × Obj)) (s:Shared) (σ:St) (H:Hp) (x:V) (v vl vu:Value) (lo hi:Option Int) (sl:Addr) (Q:VK),Inv X pins σ H s->RelV x v->s.heap.IsSliceOf sl vl vu .none->IsPart vl lo->IsPart vu hi->r x lo hi H Q->
  ∃T id,typeLookup (.type T) "__getitem__"=pure (some (.builtin id))/\s.TypeIs v T/\wpAny (model X.prog X.w) X.A (getItem v (.ref sl)) (EP X pins σ Q) X.xe s
def tSl (r:V->Option Int->Option Int->Hp->VK->Prop) (te:TE) (tl th:TO):TE:=fun σ H Q=>te σ H fun x H1=>tl σ H1 fun l H2=>th σ H2 fun u H3=>r x l u H3 Q
theorem pe_slice {r:V->Option Int->Option Int->Hp->VK->Prop} (hr:SlR X r) (he:PE X e te) (hl:PO X lo tl) (hu:PO X hi th):PE X (.Subscript e (.Slice lo hi none p2) pos) (tSl r te tl th):=by
 intro pins s σ H Q I h
 refine Subscript_ (thn (he pins s σ H _ I h) fun v s1 ⟨x,H1,I1,r1,q1⟩=>?_)
 refine wpAny_Slice (thn (hl pins s1 σ H1 _ I1 q1) fun vl s2 ⟨l,H2,I2,pl,q2⟩=>thn (hu pins s2 σ H2 _ I2 q2) fun vu s3 ⟨u,H3,I3,pu,q3⟩=>?_)
 rw [evalPart_none]
 refine wpAny_pure ?_
 have I4:Inv X pins σ H3 { s3 with heap:=s3.heap.push { cls:=.type "slice",data:=.fields #[vl,vu,.none] } }:=I3.kept (t':=s3.toks) fun b ob q=>Heap.get?_push_of_some _ q
 obtain ⟨T,id,hT,ht,hg⟩:=hr pins { s3 with heap:=s3.heap.push { cls:=.type "slice",data:=.fields #[vl,vu,.none] } } σ H3 x v vl vu l u s3.heap.objs.size Q I4 r1 (Heap.IsSliceOf.new ..) pl pu q3
 show wpAny (model X.prog X.w) X.A (subscriptTail e (.Slice lo hi none p2) v (.ref s3.heap.objs.size)) (EP X pins σ Q) X.xe { s3 with heap:=s3.heap.push { cls:=.type "slice",data:=.fields #[vl,vu,.none] } }
 exact tail_any (ops:=[.ref s3.heap.objs.size,v]) ht hT hg (by with_unfolding_all rfl)
def cutV (xs:List V) (lo hi:Option Int):List V:=(xs.drop (HT.sIx xs.length 0 lo)).take (HT.sIx xs.length xs.length hi - HT.sIx xs.length 0 lo)
theorem cutV_length (xs:List V) (lo hi:Option Int):(cutV xs lo hi).length<=xs.length:=by
 unfold cutV
 rw [List.length_take,List.length_drop]
 omega
end
def ixN (n:Nat) (i:Int):Option Nat:=if 0<=i then (if i<n then some i.toNat else none) else if -(n:Int)<=i then some (i+n).toNat else none
def atI {α:Type} (xs:List α) (i:Int):Option α:=(ixN xs.length i).bind fun j=>xs[j]?
theorem ixN_seq {n:Nat} {i:Int} {j:Nat} (h:ixN n i=some j):seqIndex? i n=some j/\j<n/\-(n:Int)<=i/\i<n:=by
 unfold ixN at h
 by_cases h0:0<=i
 ·rw [if_pos h0] at h
  by_cases h1:i<n
  ·rw [if_pos h1] at h
   have e:i.toNat=j:=Option.some.inj h
   exact ⟨by rw [seqIndex_of h0 h1,e],by omega,by omega,h1⟩
  ·rw [if_neg h1] at h;cases h
 ·rw [if_neg h0] at h
  by_cases h1:-(n:Int)<=i
  ·rw [if_pos h1] at h
   have e:(i+n).toNat=j:=Option.some.inj h
   exact ⟨by rw [seqIndex_neg (by omega) h1,e],by omega,h1,by omega⟩
  ·rw [if_neg h1] at h;cases h
theorem atI_get {α:Type} {xs:List α} {i:Int} {v:α} (h:atI xs i=some v):∃j,seqIndex? i xs.length=some j/\xs[j]? = some v/\j<xs.length/\-(xs.length:Int)<=i/\i<xs.length:=by
 unfold atI at h
 cases e:ixN xs.length i with
 | none=>rw [e] at h;cases h
 | some j=>
  rw [e] at h
  obtain ⟨h1,h2,h3,h4⟩:=ixN_seq e
  exact ⟨j,h1,h,h2,h3,h4⟩
theorem atI_nat {α:Type} {xs:List α} {j:Nat} {v:α} (h:xs[j]? = some v):atI xs (j:Int)=some v:=by
 have hj:j<xs.length:=(List.getElem?_eq_some_iff.mp h).1
 have e:ixN xs.length (j:Int)=some j:=by
  unfold ixN
  rw [if_pos (by omega),if_pos (by omega)];simp
 unfold atI;rw [e];exact h
def PlainIx (b:Expr):Prop:=∀o i,subscripted b false o i=operate [o,i] (getItem o i)
def IxR (X:Cx) (r:R2):Prop:=
 ∀(value slice:Expr) (pins:List (Addr × Obj)) (s:Shared) (σ:St) (H:Hp) (x y:V) (v u:Value) (Q:VK),Inv X pins σ H s->RelV x v->RelV y u->r x y H Q->
  subscripted slice false v u=operate [v,u] (getItem v u)->wpAny (model X.prog X.w) X.A (subscriptTail value slice v u) (EP X pins σ Q) X.xe s
def MtR (X:Cx) (id:String) (r:V->List V->Hp->VK->Prop):Prop:=
 ∀(pins:List (Addr × Obj)) (s:Shared) (σ:St) (H:Hp) (x:V) (xs:List V) (v:Value) (us:List Value) (Q:VK),Inv X pins σ H s->RelV x v->Vals xs us->r x xs H Q->
  wpAny (model X.prog X.w) X.A (call (.builtin id) (v::us)) (EP X pins σ Q) X.xe s
section
variable {X:Cx} {a b:Expr} {ta tb:TE} {pos:Pos}
theorem IxR.or {r r':R2} (h:IxR X r) (h':IxR X r'):IxR X (fun x y H Q=>r x y H Q\/r' x y H Q):=by
 intro value slice pins s σ H x y v u Q I rx ry q hs
 rcases q with q|q
 ·exact h value slice pins s σ H x y v u Q I rx ry q hs
 ·exact h' value slice pins s σ H x y v u Q I rx ry q hs
theorem pe_ix {r:R2} (hr:IxR X r) (ha:PE X a ta) (hb:PE X b tb) (hs:PlainIx b):PE X (.Subscript a b pos) (tOp r ta tb):=by
 intro pins s σ H Q I h
 exact Subscript_ (binT ha hb I h fun v u s2 x y H2 I2 rx ry q=>hr a b pins s2 σ H2 x y v u Q I2 rx ry q (hs _ _))
def rIxL (K:PySem.W.Frag):R2:=fun x y H Q=>∃p xs i v,x=.ref p/\y=.int i/\SqL K H p xs/\atI xs i=some v/\Q v H
def rIxT (K:PySem.W.Frag):R2:=fun x y H Q=>∃p xs i v,x=.ref p/\y=.int i/\SqT K H p xs/\atI xs i=some v/\Q v H
theorem ix_list:IxR X (rIxL X.K):=by
 intro value slice pins s σ H x y v u Q I rx ry h hs
 obtain ⟨p,xs,i,z,rfl,rfl,hq,he,q⟩:=h
 cases rx
 obtain ⟨t,rfl⟩:=ry
 obtain ⟨its,r,pl,hz⟩:=I.list hq
 obtain ⟨j,h1,h2,h3,h4,h5⟩:=atI_get he
 obtain ⟨w,ew,rw'⟩:=r.get h2
 have hl:=r.length
 have hn:=line63
 have fin:EP X pins σ Q w s:=⟨z,H,I,rw',q⟩
 by_cases h0:0<=i
 ·have hj:i.toNat=j:=by
   rw [seqIndex_of h0 h5] at h1
   exact Option.some.inj h1
  exact item_listR pl.isList h0 (by omega) (by rw [hj];simpa using ew) fin hs
 ·have hj:(i+(its.toArray.size:Int)).toNat=j:=by
   rw [seqIndex_neg (by omega) h4] at h1
   rw [List.size_toArray,<-hl]
   exact Option.some.inj h1
  exact subscriptTail_builtinR (x:=w) pl.isList.typeIs slot_list_getitem.lookup
   (wpAny_getItem_list_neg (Q:=fun r s'=>r=w/\EP X pins σ Q r s') pl.isList (by omega) (by rw [List.size_toArray]<;>omega) (by omega) (by rw [hj];simpa using ew) ⟨rfl,fin⟩) hs
theorem ix_tup:IxR X (rIxT X.K):=by
 intro value slice pins s σ H x y v u Q I rx ry h hs
 obtain ⟨p,xs,i,z,rfl,rfl,hq,he,q⟩:=h
 cases rx
 obtain ⟨t,rfl⟩:=ry
 obtain ⟨its,r,pl,hz⟩:=I.tuple hq
 obtain ⟨j,h1,h2,h3,h4,h5⟩:=atI_get he
 obtain ⟨w,ew,rw'⟩:=r.get h2
 have hl:=r.length
 have hn:=line63
 have fin:EP X pins σ Q w s:=⟨z,H,I,rw',q⟩
 exact subscriptTail_builtinR (x:=w) pl.typeIs slot_tuple_getitem.lookup
  (getItem_tuple (j:=j) (Q:=fun r s'=>r=w/\EP X pins σ Q r s') pl (by omega) (by omega) (by rw [List.size_toArray,<-hl];exact h1) (by simpa using ew) ⟨rfl,fin⟩) hs
theorem mapSeq_set (its:List Value) (n j:Nat) (u:Value):Obj.mapSeq (·.setIfInBounds j u) { cls:=.type "list",data:=.seq its.toArray n }={ cls:=.type "list",data:=.seq (its.set j u).toArray n }:=by
 simp [Obj.mapSeq]
theorem Inv.lst {pins:List (Addr × Obj)} {σ:St} {H:Hp} {s:Shared} {p:Addr} {xs:List V} (I:Inv X pins σ H s) (h:H p=some (.lst xs)) :
  ∃(its:List Value) (n:Nat),Vals xs its/\s.heap.get? p=some { cls:=.type "list",data:=.seq its.toArray n }/\xs.length<=sizeLine:=by
 obtain ⟨z,its,n,r,e⟩:=I.hok p _ h
 exact ⟨its,n,r,e,z⟩
theorem Inv.lstUpd {pins:List (Addr × Obj)} {σ:St} {H:Hp} {s:Shared} {p:Addr} {xs ys:List V} {its its':List Value} {n n':Nat} {f:Obj->Obj} (I:Inv X pins σ H s) (h:H p=some (.lst xs))
  (ho:s.heap.get? p=some { cls:=.type "list",data:=.seq its.toArray n }) (hf:f { cls:=.type "list",data:=.seq its.toArray n }={ cls:=.type "list",data:=.seq its'.toArray n' }) (r:Vals ys its') (hz:ys.length<=sizeLine) (t:Nat) :
  Inv X pins σ (upd H p (.lst ys)) { s with heap:=s.heap.update p f,toks:=t }:=by
 have e:(s.heap.update p f).get? p=some { cls:=.type "list",data:=.seq its'.toArray n' }:=by
  rw [Heap.get?_update_self f ho (by rw [hf]<;>rfl),hf]
 refine I.write (x:=p) (e:=p) (by rw [h];trivial) (.inl rfl) (fun b u hb q=>(Heap.get?_update_other _ _ (Ne.symm hb)).trans q) ⟨_,e⟩ ?_
 exact ⟨hz,its',n',r,e⟩
def rSetL:V->V->V->Hp->(Hp->Prop)->Prop:=fun o i v H Q=>∃p xs k j,o=.ref p/\i=.int k/\H p=some (.lst xs)/\ixN xs.length k=some j/\Q (upd H p (.lst (xs.set j v)))
theorem set_list:PSet X rSetL:=by
 intro pins s σ H o i v ov iv u Q I ro ri rv h
 obtain ⟨p,xs,k,j,rfl,rfl,hp,hj,q⟩:=h
 cases ro
 obtain ⟨t,rfl⟩:=ri
 obtain ⟨its,n,r,ho,hz⟩:=I.lst hp
 obtain ⟨h1,h2,h3,h4⟩:=ixN_seq hj
 have hl:=r.length
 have hn:=line63
 have I':Inv X pins σ (upd H p (.lst (xs.set j v))) { s with heap:=s.heap.update p (Obj.mapSeq (·.setIfInBounds j u)) }:=
  I.lstUpd hp ho (mapSeq_set its n j u) (r.set rv j) (by rw [List.length_set];exact hz) s.toks
 by_cases h0:0<=k
 ·have hk:k.toNat=j:=by
   rw [seqIndex_of h0 h4] at h1
   exact Option.some.inj h1
  exact PySem.W.ki_setAt ho h0 (by omega) (by rw [List.size_toArray,<-hl];exact h4) (by rw [hk];exact ⟨_,I',q⟩)
 ·have hk:(k+(its.toArray.size:Int)).toNat=j:=by
   rw [seqIndex_neg (by omega) h3] at h1
   rw [List.size_toArray,<-hl]
   exact Option.some.inj h1
  exact PySem.W.ki_setBack ho (by omega) (by rw [List.size_toArray,<-hl];exact h3) (by omega) (by rw [hk];exact ⟨_,I',q⟩)
theorem slice_bounds (lo hi:Option Int) (n:Nat):(sliceBounds lo hi none n).1=((HT.sIx n 0 lo:Nat):Int)/\(sliceBounds lo hi none n).2.1=((HT.sIx n n hi:Nat):Int)/\(sliceBounds lo hi none n).2.2=1:=by
 refine ⟨?_,?_,rfl⟩
 ·cases lo with
  | none=>simp [sliceBounds,HT.sIx]
  | some i=>
   simp only [sliceBounds,HT.sIx,Option.getD_none,show (1:Int) > 0 by decide,if_true]
   by_cases h:i<0
   ·simp only [h,if_true]<;>omega
   ·simp only [h,if_false]<;>omega
 ·cases hi with
  | none=>simp [sliceBounds,HT.sIx]
  | some i=>
   simp only [sliceBounds,HT.sIx,Option.getD_none,show (1:Int) > 0 by decide,if_true]
   by_cases h:i<0
   ·simp only [h,if_true]<;>omega
   ·simp only [h,if_false]<;>omega
theorem slicePick_cut (its:List Value) (lo hi:Option Int):slicePick its.toArray lo hi none=((its.drop (HT.sIx its.length 0 lo)).take (HT.sIx its.length its.length hi - HT.sIx its.length 0 lo)).toArray:=by
 obtain ⟨h1,h2,h3⟩:=slice_bounds lo hi its.toArray.size
 unfold slicePick
 rw [h1,h2,h3]
 simp only [sliceRange_one,pick_run,List.size_toArray]<;>rfl
def rSlL (K:PySem.W.Frag):V->Option Int->Option Int->Hp->VK->Prop:=fun x lo hi H Q=>∃a xs,x=.ref a/\SqL K H a xs/\∀p,H p=none->Q (.ref p) (upd H p (.lst (cutV xs lo hi)))
theorem sl_list:SlR X (rSlL X.K):=by
 intro pins s σ H x v vl vu lo hi sl Q I rx hs pl pu h
 obtain ⟨a,xs,rfl,hx,q⟩:=h
 cases rx
 obtain ⟨its,r,ht,hz⟩:=I.list hx
 have hlen:=r.length
 refine ⟨"list",_,slot_list_getitem.lookup,ht.isList.typeIs,?_⟩
 refine wpAny_getItem_list_slice ht.isList hs pl pu .none (by simp) ?_ (by rw [List.size_toArray]<;>omega)
 rw [slicePick_cut,<-hlen]
 refine ⟨.ref s.heap.objs.size,_,I.laid (t':=s.toks) (o:=.lst (cutV xs lo hi)) (fun b ob q=>Heap.get?_push_of_some _ q) (Nat.le_refl _) ?_,rfl,q _ (I.hok.fresh (Nat.le_refl _))⟩
 exact ⟨Nat.le_trans (cutV_length xs lo hi) hz,_,0,(r.drop (HT.sIx xs.length 0 lo)).take (HT.sIx xs.length xs.length hi - HT.sIx xs.length 0 lo),Heap.get?_push_size _ rfl⟩
theorem call_len_seq:CallR X (.builtin "len") (fun xs H Q=>∃p ys,xs=[.ref p]/\(SqL X.K H p ys\/SqT X.K H p ys)/\Q (.int ys.length) H):=by
 intro pins s σ H xs us Q I r h
 obtain ⟨p,ys,rfl,hq,q⟩:=h
 obtain ⟨u,rfl,rx⟩:=vals1 r
 cases rx
 have hn:=line63
 rcases hq with hq|hq
 ·obtain ⟨its,r',pl,hz⟩:=I.list hq
  have hlen:=r'.length
  exact Calls.call_len_list pl.isList (by simp only [List.size_toArray]<;>omega) ⟨.int ys.length,H,I.tok _,⟨s.toks+1,by rw [List.size_toArray,hlen]⟩,q⟩
 ·obtain ⟨its,r',pl,hz⟩:=I.tuple hq
  have hlen:=r'.length
  exact len_tuple pl (by simp only [List.size_toArray]<;>omega) ⟨.int ys.length,H,I.tok _,⟨s.toks+1,by rw [List.size_toArray,hlen]⟩,q⟩
theorem call_list_of:CallR X (.type "list") (fun xs H Q=>∃p ys,xs=[.ref p]/\(SqL X.K H p ys\/SqT X.K H p ys)/\∀l,H l=none->Q (.ref l) (upd H l (.lst ys))):=by
 intro pins s σ H xs us Q I r h
 obtain ⟨p,ys,rfl,hq,q⟩:=h
 obtain ⟨u,rfl,rx⟩:=vals1 r
 cases rx
 have fin:∀(its:List Value),Vals ys its->ys.length<=sizeLine->∀(h':Heap) (c':Nat),(∀b o',s.heap.get? b=some o'->h'.get? b=some o')->
   h'.get? s.heap.objs.size=some { cls:=.type "list",dict:=none,data:=.seq its.toArray c',slots:=#[] }->EP X pins σ Q (.ref s.heap.objs.size) { s with heap:=h' }:=fun its r' hz h' c' kp e=>
  ⟨.ref s.heap.objs.size,_,I.laid (t':=s.toks) kp (Nat.le_refl _) (show ObjOk X.prog X.w _ h' _ (.lst ys) from ⟨hz,its,c',r',e⟩),rfl,q _ (I.hok.fresh (Nat.le_refl _))⟩
 rcases hq with hq|hq
 ·obtain ⟨its,r',pl,hz⟩:=I.list hq
  have hlen:=r'.length
  obtain ⟨o,ho,hc,n,hd⟩:=pl.isList
  exact call_list_seq p (.inl rfl) ho hc hd (fun h' c' kp e=>fin its r' hz h' c' kp e) (by simp only [List.size_toArray]<;>omega)
 ·obtain ⟨its,r',pl,hz⟩:=I.tuple hq
  have hlen:=r'.length
  obtain ⟨o,ho,hc,n,hd⟩:=pl
  exact call_list_seq p (.inr rfl) ho hc hd (fun h' c' kp e=>fin its r' hz h' c' kp e) (by simp only [List.size_toArray]<;>omega)
def tyV (K:PySem.W.Frag) (T:String) (x:V) (H:Hp):Prop:=match x with
 | .str _=>T="str"
 | .int _=>T="int"
 | .ref p=>(T="list"/\∃xs,SqL K H p xs)\/(T="tuple"/\∃o,K.lookup p=some o/\o.cls=.type "tuple"/\o.dict=none) \/
   (T="dict"/\((∃kvs,H p=some (.dK kvs))\/∃kvs,H p=some (.dT kvs)))\/(T="set"/\∃S n,H p=some (.set S n))
 | _=>False
theorem tyV_is {pins:List (Addr × Obj)} {σ:St} {H:Hp} {s:Shared} {T:String} {x:V} {v:Value} (I:Inv X pins σ H s) (r:RelV x v) (ty:tyV X.K T x H) :
  s.TypeIs v T/\∀a,v=.ref a->∃ob,s.heap.get? a=some ob/\ob.dict=none:=by
 cases x with
 | str z=>
  obtain ⟨t,rfl⟩:=r
  cases (show T="str" from ty)
  exact ⟨typeIs_str s z t,fun _ e=>nomatch e⟩
 | int i=>
  obtain ⟨t,rfl⟩:=r
  cases (show T="int" from ty)
  exact ⟨typeIs_int s i t,fun _ e=>nomatch e⟩
 | ref p=>
  cases r
  rcases ty with ⟨rfl,xs,hq⟩|⟨rfl,o,hk,hc,hd⟩|⟨rfl,hk⟩|⟨rfl,S,n,hk⟩
  ·obtain ⟨its,_,pl,_⟩:=I.list hq
   refine ⟨pl.isList.typeIs,fun a e=>?_⟩
   cases e
   obtain ⟨o,n,e,c,hd,_⟩:=pl
   exact ⟨o,e,hd⟩
  ·refine ⟨⟨o,I.kIn p o hk,hc⟩,fun a e=>?_⟩
   cases e
   exact ⟨o,I.kIn _ o hk,hd⟩
  ·have z:∃o,s.heap.get? p=some o/\o.ExactDict:=by
    rcases hk with ⟨kvs,hk⟩|⟨kvs,hk⟩
    ·obtain ⟨_,_,_,_,o,_,_,e,ex,_⟩:=I.hok p _ hk
     exact ⟨o,e,ex⟩
    ·obtain ⟨_,_,_,_,o,_,_,e,ex,_⟩:=I.hok p _ hk
     exact ⟨o,e,ex⟩
   obtain ⟨o,e,ex⟩:=z
   refine ⟨⟨o,e,ex.1⟩,fun a e2=>?_⟩
   cases e2
   exact ⟨o,e,ex.2.1⟩
  ·obtain ⟨o,_,_,_,e,ex,_⟩:=I.hok p _ hk
   refine ⟨⟨o,e,ex.1⟩,fun a e2=>?_⟩
   cases e2
   exact ⟨o,e,ex.2.1⟩
 | _=>exact False.elim ty
def tBM0 (K:PySem.W.Frag) (T:String) (r:V->List V->Hp->VK->Prop) (to:TE):TE:=fun σ H Q=>to σ H fun x H1=>tyV K T x H1/\r x [] H1 Q
def tBM (K:PySem.W.Frag) (T:String) (r:V->List V->Hp->VK->Prop) (to:TE) (t:TA):TE:=fun σ H Q=>to σ H fun x H1=>tyV K T x H1/\t σ H1 fun xs H2=>r x xs H2 Q
variable {o e:Expr} {es:List Expr} {to:TE} {t:TA} {name:Str} {apos cpos:Pos} {T id:String} {r:V->List V->Hp->VK->Prop}
theorem pe_bm0 (pa:PlainAttrs T) (slot:Slot T name id) (hty:typeOf (.builtin id)=pure (.type "method_descriptor")) (hm:MtR X id r) (ho:PE X o to)
  (hbase:attributeBase o name X.env (eval o X.env)=eval o X.env:=by rfl) (hline:(apos.endLine == cpos.line)=true:=by rfl):PE X (.Call (.Attribute o name apos) [] [] cpos) (tBM0 X.K T r to):=by
 intro pins s σ H Q I h
 refine wpAny_Call_method0_late hbase hline (thn (ho pins s σ H _ I h) fun v s1 ⟨x,H1,I1,r1,ty,q1⟩=>?_)
 obtain ⟨h1,h2⟩:=tyV_is I1 r1 ty
 exact ⟨T,id,pa,slot,hty,h1,h2,Calls.callWith_builtin rfl (PySem.evalArgs_none (hm pins s1 σ H1 x [] v [] Q I1 r1 .nil q1))⟩
theorem pe_bm (pa:PlainAttrs T) (slot:Slot T name id) (hty:typeOf (.builtin id)=pure (.type "method_descriptor")) (hm:MtR X id r) (ho:PE X o to) (ha:PA X (e::es) t)
  (hbase:attributeBase o name X.env (eval o X.env)=eval o X.env:=by rfl)
  (hfew:((backTo cpos (starEach (e::es) X.env)).all (fun x=>!x.1) && (backToKw cpos (keywordEach [] X.env)).all (fun x=>x.1.isSome)
   && decide ((e::es).length+([]:List Keyword).length+(if ([]:List Keyword).isEmpty then 0 else 1)<30))=true:=by rfl)
  (hline:(apos.endLine == cpos.line)=true:=by rfl) (hs:starEach (e::es) X.env=(false,eval e X.env)::starEach es X.env:=by rfl) (hplain:(backTo cpos (starEach es X.env)).any (·.1)=false:=by rfl) :
  PE X (.Call (.Attribute o name apos) (e::es) [] cpos) (tBM X.K T r to t):=by
 intro pins s σ H Q I h
 refine wpAny_Call_method_late hbase hfew hline rfl (thn (ho pins s σ H _ I h) fun v s1 ⟨x,H1,I1,r1,ty,q1⟩=>?_)
 obtain ⟨h1,h2⟩:=tyV_is I1 r1 ty
 refine ⟨T,id,pa,slot,hty,h1,h2,?_⟩
 have hA:=ha cpos pins s1 σ H1 _ I1 q1
 rw [hs] at hA ⊢
 refine Calls.callWith_builtin (by show (false || (backTo cpos (starEach es X.env)).any (·.1))=false;rw [hplain]<;>rfl) (Calls.evalArgs_plain ?_)
 exact thn hA fun us s2 zq=>by obtain ⟨vs,H2,I2,r2,q2⟩:=zq;exact hm pins s2 σ H2 x vs v us Q I2 r1 r2 q2
/- xs.append(e),list.index on a module's tuple .. are MtR facts of 06m -/
end
def MtM (X:Cx) (id:String) (r:V->List V->Hp->VK->Prop):Prop:=
 ∀(pins:List (Addr × Obj)) (s:Shared) (σ:St) (H:Hp) (x:V) (xs:List V) (v:Value) (us:List Value) (Q:VK),Inv X pins σ H s->RelV x v->Vals xs us->r x xs H Q->
  wpAny (model X.prog X.w) X.A (call (.builtin id) (v::us)) (EP X pins σ Q) X.xe s
theorem Vals.one:∀{x:V} {us:List Value},Vals [x] us->∃u,us=[u]/\RelV x u
 | _,_,.cons r .nil=>⟨_,rfl,r⟩
theorem Vals.zero:∀{us:List Value},Vals [] us->us=[]
 | _,.nil=>rfl
theorem Vals.dropLast {xs:List V} {us:List Value} (h:Vals xs us):Vals xs.dropLast us.dropLast:=by
 induction h with
 | nil=>exact .nil
 | cons r t ih=>
  cases t with
  | nil=>exact .nil
  | cons q t'=>exact .cons r ih
theorem Vals.eraseIdx:∀{xs:List V} {us:List Value} (i:Nat),Vals xs us->Vals (xs.eraseIdx i) (us.eraseIdx i)
 | _,_,_,.nil=>.nil
 | _,_,0,.cons _ t=>t
 | _,_,i+1,.cons r t=>.cons r (Vals.eraseIdx i t)
theorem Vals.reverse {xs:List V} {us:List Value} (h:Vals xs us):Vals xs.reverse us.reverse:=by
 induction h with
 | nil=>exact .nil
 | cons r t ih=>rw [List.reverse_cons,List.reverse_cons];exact Vals.append ih (.cons r .nil)
theorem Vals.rep {xs:List V} {us:List Value} (h:Vals xs us):∀k:Nat,Vals (List.replicate k xs).flatten (List.replicate k us).flatten
 | 0=>.nil
 | k+1=>by
  rw [List.replicate_succ,List.replicate_succ,List.flatten_cons,List.flatten_cons]
  exact Vals.append h (Vals.rep h k)
theorem erase_last {α:Type} (l:List α):l.eraseIdx (l.length - 1)=l.dropLast:=by
 induction l with
 | nil=>rfl
 | cons a r ih=>
  cases r with
  | nil=>rfl
  | cons b r=>
   have e:(a::b::r).length - 1=((b::r).length - 1)+1:=by
    have h1:(a::b::r).length=r.length+2:=rfl
    have h2:(b::r).length=r.length+1:=rfl
    omega
   rw [e,List.eraseIdx_cons_succ,ih]
   all_goals rfl
theorem foldl_rep (its:List Value):∀(k:Nat) (acc:List Value),
  List.foldl (fun x1 x2=>x1++x2) acc.toArray (List.replicate k its.toArray)=(acc++(List.replicate k its).flatten).toArray
 | 0,acc=>by simp
 | k+1,acc=>by
  have e:acc.toArray++its.toArray=(acc++its).toArray:=by simp
  have e2:(acc++its)++(List.replicate k its).flatten=acc++(List.replicate (k+1) its).flatten:=by
   rw [List.replicate_succ,List.flatten_cons,List.append_assoc]
  rw [<-e2,<-foldl_rep its k (acc++its),<-e,List.replicate_succ,List.foldl_cons]
section
variable {X:Cx} {pins:List (Addr × Obj)} {σ:St} {H:Hp} {s:Shared} {l b:Addr} {xs ys zs:List V}
theorem Inv.lset {its its':List Value} {n:Nat} {f:Array Value->Array Value} {t':Nat} (I:Inv X pins σ H s) (hH:H l=some (.lst xs))
  (e:s.heap.get? l=some { cls:=.type "list",data:=.seq its.toArray n }) (hf:f its.toArray=its'.toArray) (hv:Vals ys its') (hz:ys.length<=sizeLine) :
  Inv X pins σ (upd H l (.lst ys)) { s with heap:=s.heap.update l (Obj.mapSeq f),toks:=t' }:=by
 have q:=PySem.IsL.update e f
 rw [hf] at q
 refine I.write (x:=l) (e:=l) (by rw [hH];exact trivial) (.inl rfl) (fun b' u hb hu=>(Heap.get?_update_other s.heap (Obj.mapSeq f) (Ne.symm hb)).trans hu) ⟨_,q⟩ ?_
 exact ⟨hz,its',_,hv,q⟩
theorem Inv.lnew {its:List Value} {t':Nat} (I:Inv X pins σ H s) (hv:Vals ys its) (hz:ys.length<=sizeLine) :
  Inv X pins σ (upd H s.heap.objs.size (.lst ys)) { s with heap:=s.heap.push { cls:=.type "list",data:=.seq its.toArray },toks:=t' }:=
 I.laid (fun _ _ q=>Heap.get?_push_of_some _ q) (Nat.le_refl _) ⟨hz,its,0,hv,Heap.get?_push_size _ rfl⟩
theorem Inv.fresh (I:Inv X pins σ H s):H s.heap.objs.size=none:=I.hok.fresh (Nat.le_refl _)
theorem Inv.lstM (I:Inv X pins σ H s) (hH:H l=some (.lst xs)):xs.length<=sizeLine/\∃(its:List Value) (n:Nat),Vals xs its/\xs.length=its.length/\s.heap.get? l=some { cls:=.type "list",data:=.seq its.toArray n }:=by
 obtain ⟨z,its,n,r,e⟩:=I.hok l _ hH
 exact ⟨z,its,n,r,r.length,e⟩
theorem notLongL {n:Nat} (h:n<=sizeLine):Builtin.List.listTooLong n=false:=by
 unfold Builtin.List.listTooLong
 exact decide_eq_false (by omega)
end
section
variable {X:Cx}
def rAppend:V->List V->Hp->VK->Prop:=fun x vs H Q=>∃l xs y,x=.ref l/\vs=[y]/\H l=some (.lst xs)/\xs.length<sizeLine/\Q .non (upd H l (.lst (xs++[y])))
theorem mt_append:MtM X "list.append" rAppend:=by
 intro pins s σ H x vs v us Q I rx rv h
 obtain ⟨l,xs,y,rfl,rfl,hH,hz,q⟩:=h
 cases rx
 obtain ⟨u,rfl,ru⟩:=rv.one
 obtain ⟨z,its,n,r,hl,e⟩:=I.lstM hH
 refine call_meets F.slot_list_append ⟨_,e,rfl⟩ F.entry_list_append (F.args_list_append_2 _ _) (PySem.list_append l its.toArray n u (by rw [List.size_toArray];omega)) ⟨e,?_⟩
 refine ⟨.non,_,I.lset (its':=its++[u]) hH e (by simp) (r.append (.cons ru .nil)) ?_,rfl,q⟩
 rw [List.length_append,List.length_singleton]
 omega
def rExtend:V->List V->Hp->VK->Prop:=fun x vs H Q=>∃l b xs zs,x=.ref l/\vs=[.ref b]/\H l=some (.lst xs)/\H b=some (.lst zs)/\xs.length+zs.length<=sizeLine/\Q .non (upd H l (.lst (xs++zs)))
theorem mt_extend:MtM X "list.extend" rExtend:=by
 intro pins s σ H x vs v us Q I rx rv h
 obtain ⟨l,b,xs,zs,rfl,rfl,hH,hB,hz,q⟩:=h
 cases rx
 obtain ⟨u,rfl,ru⟩:=rv.one
 cases ru
 obtain ⟨z,its,n,r,hl,e⟩:=I.lstM hH
 obtain ⟨z2,its2,n2,r2,hl2,e2⟩:=I.lstM hB
 have hsz:its.toArray.size+its2.toArray.size<=sizeLine:=by rw [List.size_toArray,List.size_toArray];omega
 have hlong:¬(!its.toArray.isEmpty && Builtin.List.listTooLong (its.toArray.size+its2.toArray.size))=true:=by
  rw [notLongL hsz,Bool.and_false]
  exact Bool.false_ne_true
 refine call_meets F.slot_list_extend ⟨_,e,rfl⟩ F.entry_list_extend (F.args_list_extend_2 _ _)
  (AutoSeq1.list_extend_list_list_0 l its.toArray n b its2.toArray n2 hlong (by rw [List.size_toArray];omega) (by omega)) ⟨e,e2,?_⟩
 refine ⟨.non,_,I.lset (its':=its++its2) hH e (by simp) (r.append r2) ?_,rfl,q⟩
 rw [List.length_append]
 omega
def rPop:V->List V->Hp->VK->Prop:=fun x vs H Q=>∃l xs y,x=.ref l/\vs=[]/\H l=some (.lst xs)/\xs[xs.length - 1]? = some y/\Q y (upd H l (.lst xs.dropLast))
theorem mt_pop:MtM X "list.pop" rPop:=by
 intro pins s σ H x vs v us Q I rx rv h
 obtain ⟨l,xs,y,rfl,rfl,hH,hy,q⟩:=h
 cases rx
 have hus:=rv.zero
 subst hus
 obtain ⟨z,its,n,r,hl,e⟩:=I.lstM hH
 obtain ⟨u,hu,ru⟩:=r.get hy
 have hy':its.toArray[its.toArray.size - 1]? = some u:=by
  show its.toArray[its.length - 1]? = some u
  rw [<-Array.getElem?_toList,<-hl]
  exact hu
 refine call_meets F.slot_list_pop ⟨_,e,rfl⟩ F.entry_list_pop (F.args_list_pop_1 _) (MeetsSeq.list_pop_last l its.toArray n u hy' (by rw [List.size_toArray];omega)) ⟨e,?_⟩
 refine ⟨y,_,I.lset (its':=its.dropLast) hH e ?_ r.dropLast ?_,ru,q⟩
 ·show its.toArray.eraseIdxIfInBounds (its.toArray.size - 1)=its.dropLast.toArray
  rw [List.size_toArray,List.eraseIdxIfInBounds_toArray,erase_last]
 ·rw [List.length_dropLast]
  omega
def rReverse:V->List V->Hp->VK->Prop:=fun x vs H Q=>∃l xs,x=.ref l/\vs=[]/\H l=some (.lst xs)/\Q .non (upd H l (.lst xs.reverse))
theorem mt_reverse:MtM X "list.reverse" rReverse:=by
 intro pins s σ H x vs v us Q I rx rv h
 obtain ⟨l,xs,rfl,rfl,hH,q⟩:=h
 cases rx
 have hus:=rv.zero
 subst hus
 obtain ⟨z,its,n,r,hl,e⟩:=I.lstM hH
 refine call_meets F.slot_list_reverse ⟨_,e,rfl⟩ F.entry_list_reverse (F.args_list_reverse_1 _) (AutoSeq1.list_reverse_list_0 l its.toArray n (by rw [List.size_toArray];omega)) ⟨e,?_⟩
 refine ⟨.non,_,I.lset (its':=its.reverse) hH e (by simp) r.reverse ?_,rfl,q⟩
 rw [List.length_reverse]
 omega
def rCat:R2:=fun x y H Q=>∃l b xs zs,x=.ref l/\y=.ref b/\H l=some (.lst xs)/\H b=some (.lst zs)/\xs.length+zs.length<=sizeLine/\∀p,H p=none->Q (.ref p) (upd H p (.lst (xs++zs)))
theorem op_cat:OpR X (binaryOp .Add) rCat:=by
 intro pins s σ H x y v u Q I rx ry h
 obtain ⟨l,b,xs,zs,rfl,rfl,hH,hB,hz,q⟩:=h
 cases rx
 cases ry
 obtain ⟨z,its,n,r,hl,e⟩:=I.lstM hH
 obtain ⟨z2,its2,n2,r2,hl2,e2⟩:=I.lstM hB
 refine PySem.P.add_list e e2 ?_ (by rw [List.size_toArray,List.size_toArray];omega)
 have ea:its.toArray++its2.toArray=(its++its2).toArray:=by simp
 rw [ea]
 exact ⟨.ref _,_,I.lnew (t':=s.toks) (r.append r2) (by rw [List.length_append];omega),rfl,q _ I.fresh⟩
def rRep:R2:=fun x y H Q=>∃l k xs,x=.ref l/\y=.int k/\H l=some (.lst xs)/\-(2 ^ 63)<=k/\k<2 ^ 63/\xs.length * k.toNat<=sizeLine /\
 ∀p,H p=none->Q (.ref p) (upd H p (.lst (List.replicate k.toNat xs).flatten))
theorem len_rep {α:Type} (xs:List α) (k:Nat):(List.replicate k xs).flatten.length=k * xs.length:=by
 induction k with
 | zero=>simp
 | succ k ih=>rw [List.replicate_succ,List.flatten_cons,List.length_append,ih,Nat.succ_mul,Nat.add_comm]
theorem op_rep:OpR X (binaryOp .Mult) rRep:=by
 intro pins s σ H x y v u Q I rx ry h
 obtain ⟨l,k,xs,rfl,rfl,hH,h1,h2,hz,q⟩:=h
 cases rx
 obtain ⟨t,rfl⟩:=ry
 obtain ⟨z,its,n,r,hl,e⟩:=I.lstM hH
 have hlen:its.toArray.size * k.toNat<=sizeLine:=by rw [List.size_toArray,<-hl];exact hz
 have hcap:¬its.toArray.size * k.toNat > (2 ^ 63 - 1) / 8:=by
  have:(sizeLine:Nat)<=(2 ^ 63 - 1) / 8:=by decide
  omega
 have hfit:¬(!Builtin.List.listFitsIndex k)=true:=by
  rw [fitsIndex_both h1 h2]
  exact Bool.false_ne_true
 have hlong:¬Builtin.List.listTooLong (its.toArray.size * k.toNat)=true:=by
  rw [notLongL hlen]
  exact Bool.false_ne_true
 have hnew:List.foldl (fun x1 x2=>x1++x2) #[] (List.replicate (if its.toArray.isEmpty=true then 0 else k.toNat) its.toArray)=(List.replicate k.toNat its).flatten.toArray:=by
  have f0:∀m:Nat,List.foldl (fun x1 x2=>x1++x2) #[] (List.replicate m its.toArray)=(List.replicate m its).flatten.toArray:=fun m=>by
   have:=foldl_rep its m []
   rw [List.nil_append] at this
   exact this
  rw [f0]
  cases its with
  | nil=>simp
  | cons a r'=>rw [if_neg (by simp)]
 refine wpAny_binaryOp_repeat_ref (T:="list") (U:="int") (by decide) ⟨_,e,rfl⟩ (fun s'=>typeIs_int s' k t) noFill_list_mul F.fills_int_mul F.slot_int_rmul repeat_list F.slot_int_index.lookup
  (call_meets F.slot_int_rmul (typeIs_int s k t) F.entry_int_rmul (F.args_int_rmul_2 _ _) (int___rmul___int_list k t l its.toArray n)
   ⟨e,rfl,⟨_,e,rfl⟩,call_meets F.slot_list_mul ⟨_,e,rfl⟩ F.entry_list_mul (F.args_list_mul_2 _ _) (AutoListH.list___mul___list_int_3 l its.toArray n k t hfit hcap hlong) ⟨e,?_⟩⟩)
 rw [hnew]
 exact ⟨.ref _,_,I.lnew (t':=s.toks) (r.rep k.toNat) (by rw [len_rep,Nat.mul_comm];exact hz),rfl,q _ I.fresh⟩
end
end L2
namespace Att
open PySem PySem.W PySem.Calls PyProof.Rows
theorem ints_of_wellAll {P:Params} {h:Heap}:∀(ns:List Int) (vs:List Value),WellAll P h vs (ns.map WData.int)->IntsAre vs ns:=by
 intro ns
 induction ns with
 | nil=>
  intro vs w
  rw [List.map_nil] at w
  cases w
  exact .nil
 | cons n ns ih=>
  intro vs w
  rw [List.map_cons] at w
  cases w with
  | cons a b=>
   cases a
   exact .cons _ _ (ih _ b)
theorem script_of {l:OpenLaw} {n:Nat} (hn:l.most=some n) {P:Params} {h:Heap} {args:List WData} {vals:List Value}
  (hpre:l.row.toRowW.claim.pre args=true) (hwl:WellAll P h vals args) :
  ∃a vs ns,vals=[Value.ref a]/\args=[WData.list (ns.map WData.int)]/\h.get? a=some { cls:=.type "list",data:=.seq vs.toArray }/\IntsAre vs ns/\ns.length<=n:=by
 have hsh:WShape.hasAll [] args [.list .int]=true:=(pre_splitW hpre).1
 have hc:l.pre.holds [] { args:=args }=true:=(pre_splitW hpre).2
 obtain ⟨d,r,rfl,h1,h2⟩:=hasAllW_cons hsh
 obtain rfl:=hasAllW_nil h2
 obtain ⟨xs,rfl,h3⟩:=hasW_list h1
 obtain ⟨ns,rfl⟩:=items_int h3
 have hlen:ns.length<=n:=by
  unfold OpenLaw.pre at hc
  have h4:(WTm.not (.lt (.lit (.int (n:Int))) (.len (.arg 0)))).holds [] { args:=[.list (ns.map .int)] }=true:=by
   have h4:=(holds_andW hc).1
   rw [hn] at h4
   exact h4
  have h5:=condW_of h4 (w_not (w_lt w_lit (w_len_list (w_arg rfl))))
  rw [List.length_map] at h5
  refine Nat.le_of_not_lt fun q=>?_
  have q':(n:Int)<((ns.length:Nat):Int):=by omega
  first
   | (rw [decide_eq_true q'] at h5;exact absurd h5 (by decide))
   | (simp at h5;omega)
 cases hwl with
 | cons w1 w2=>
  cases w2
  cases w1 with
  | list ho hall=>exact ⟨_,_,ns,rfl,rfl,ho,ints_of_wellAll ns _ hall,hlen⟩
theorem post_true (l:OpenLaw) (args:List WData):l.row.toRowW.claim.post args (.bool true) args=true:=
 postW_of (r:=l.row.toRowW) (X:=(true == true))
  (show WShape.has [] (.bool true) .bool=true by first|rfl|decide|simp [WShape.has,WShape.arms,WShape.armsAll])
  (show (WTm.eq .res (.lit (.bool true))).value [] { args:=args,res:=some (.bool true),after:=args }=some (.bool (true == true)) from w_eq_bool (w_res rfl) w_lit) rfl
theorem attach_call {l:OpenLaw} {n:Nat} {q:Program} {loose:List Str} {XP:(Str->Option Value)->Heap->Prop} {YP:World->Heap->Prop} {d:DefRec}
  (hn:l.most=some n) (hdf:d.params.defaults=[])
  (call:∀(w:World) (s₀ s₁:Shared) (mg mb:Str->Option Value) (fa:Addr) (o:Obj) (pm cd doc:Value) (a:Addr) (vs:List Value) (ns:List Int),
   Ground q loose [] XP w s₀ mg mb s₁.heap->YP w s₁.heap->
   s₁.heap.get? fa=some o->o.data=.func (docDef d.name d.params d.body d.scope pm cd doc)->s₁.heap.CodeRec cd d.name->mg d.name=some (.ref fa)->
   s₁.heap.get? a=some { cls:=.type "list",data:=.seq vs.toArray }->IntsAre vs ns->ns.length<=n->s₁.gens=#[]->
   codeAny (model l.prog w) callerA (.call (.ref fa) ⟨[.ref a],[]⟩) (fun r s'=>r=.ok (.ret (.bool true))/\OldK s₁.heap s'.heap/\s'.os=s₁.os/\AllBare s'.gens) s₁) :
  WalkO q loose XP YP l.row.toRowW d [] (fun f vs=>PySem.call f vs):=by
 intro w s₀ s₁ mg mb G Y fa o pm cd doc dV kV ho hd hcd hD hmg hg args vals as hpre hlay hrd hwl hlo
 obtain rfl:dV=.none:=Dflts.none hD hdf
 obtain rfl:kV=.none:=Dflts.noKw hD
 obtain ⟨a,vs,ns,rfl,rfl,hobj,hints,hlen⟩:=script_of hn hpre hwl
 refine enter_call (codeAny_mono (call w s₀ s₁ mg mb fa o pm cd doc a vs ns G Y ho (fd_plain hd) hcd hmg hobj hints hlen hg) fun r s' hq=>?_)
 obtain ⟨rfl,h2,h3,h4⟩:=hq
 exact ⟨.inl ⟨.bool true,.bool true,[],rfl,fun _=>rfl,.bool true,post_true l _,fun _=>⟨List.Pairwise.nil,fun _ hm=>(nomatch hm)⟩⟩,h2,h3,h4⟩
section
variable {prog:Program} {w:World} {A:Around} {E:Value->Shared->Prop} {s:Shared} {K:Frag}
end
end Att
namespace L2
open PySem PySem.Spec PyProof.Rows
theorem vals_ints:∀{vs:List Value} {ns:List Int},IntsAre vs ns->Vals (ns.map V.int) vs
 | _,_,.nil=>.nil
 | _,_,.cons n t h=>.cons ⟨t,rfl⟩ (vals_ints h)
def Only (H:Hp):Prop:=∀b,H b=none\/∃o xs,H b=some (.frz o (.lst xs))
theorem law_call {P:Program} {w:World} {K:PySem.W.Frag} {mg mb:Str->Option Value} {CX:CXT} {k:Nat} {fa a:Addr} {fd:FuncData} {x:Str} {sp:Sp} {s₁:Shared} {vs:List Value} {ns:List Int}
  (KX:K.In s₁.heap) (hns:s₁.heap.Ns mainGlobals mg) (hb:s₁.heap.Ns builtinsNs mb) (hbb:∀x:Str,x≠"__name__"->mb x=bootBuiltins x) (hlim:s₁.heap.NoLimit) (hg:s₁.gens=#[])
  (ha:s₁.heap.get? a=some { cls:=.type "list",data:=.seq vs.toArray }) (hi:IntsAre vs ns) (hl:ns.length<=sizeLine) (hr:Room k callerA)
  (F:∀base:Heap,K.In base->base.Ns mainGlobals mg->FnOk P w K mg base CX k fa fd [x] sp) (hbind:∀(s:Shared) (u:Value),BindsTo s fd ⟨[u],[]⟩ [(x,u)])
  (hsp:∀H:Hp,Only H->SqL K H a (ns.map V.int)->sp [.ref a] H (fun v _=>v=.bl true) fun _ _ _=>False)
  (hCX:∀H e s',CX [] H s₁ (fun _ _ _=>False) e s'->False) :
  codeAny (model P w) callerA (.call (.ref fa) ⟨[.ref a],[]⟩) (fun r s'=>r=.ok (.ret (.bool true))/\OldK s₁.heap s'.heap/\s'.os=s₁.os/\AllBare s'.gens) s₁:=by
 have rv:=vals_ints hi
 have lenV:=hi.length
 -- from an abstract heap in which nothing but the script may be tracked
 have core:∀H:Hp,Only H->SqL K H a (ns.map V.int)->HOk P w H s₁.heap->(∀b,H b≠none->b=a)->(H a≠none->K.lookup a=none)->
   codeAny (model P w) callerA (.call (.ref fa) ⟨[.ref a],[]⟩) (fun r s'=>r=.ok (.ret (.bool true))/\OldK s₁.heap s'.heap/\s'.os=s₁.os/\AllBare s'.gens) s₁:=by
  intro H hO hS hok hA hK
  have base_of:∀{b:Addr} {o:Obj},s₁.heap.get? b=some o->H b=none->(hidT s₁.heap H).get? b=some o:=fun e n=>hidT_get e n
  have noA:∀{b:Addr} {o:Obj} {es:Array DictEntry} {ep:Nat},s₁.heap.get? b=some o->o.data=.dict es ep->H b=none:=fun {b o es ep} e d=>by
   cases q:H b with
   | none=>rfl
   | some u=>
    have e':b=a:=hA b (by rw [q];simp)
    subst e'
    rw [ha] at e;cases e
    have d':Data.seq vs.toArray _=Data.dict es ep:=d
    cases d'
  have nsK:∀{b:Addr} {m:Str->Option Value},s₁.heap.Ns b m->(hidT s₁.heap H).Ns b m:=fun {b m} ⟨o,es,ep,e,d,r⟩=>⟨o,es,ep,base_of e (noA e d),d,r⟩
  have hKb:K.In (hidT s₁.heap H):=fun b o e=>base_of (KX b o e) (by
   cases q:H b with
   | none=>rfl
   | some u=>
    have e':b=a:=hA b (by rw [q];simp)
    subst e'
    rw [hK (by rw [q];simp)] at e;cases e)
  have hM:Mod K mg (hidT s₁.heap H):=⟨hKb,nsK hns,⟨mb,nsK hb,hbb⟩,let ⟨mc,h1,h2⟩:=hlim;⟨mc,nsK h1,h2⟩⟩
  have e0:Env0 P w K mg (hidT s₁.heap H) callerA [] s₁ H:=⟨rfl,hM,fun b o e=>of_hidT e,Nat.le_of_eq (hidT_size _ _),trivial,fun b hb=>absurd (show b∈([]:List Addr) from hb) (by simp),hok,.of_eq hg⟩
  refine codeAny_mono ((F _ hKb (nsK hns)).run callerA [] s₁ H ⟨[.ref a],[]⟩ [.ref a] [.ref a] _ _ hr e0 (hbind s₁ (.ref a)) (.cons rfl .nil) (hsp H hO hS)) fun r s' h=>?_
  cases r with
  | error e=>exact (hCX H e s' h).elim
  | ok fl=>
   cases fl with
   | next=>exact False.elim h
   | brk=>exact False.elim h
   | cont=>exact False.elim h
   | ret u=>
    obtain ⟨v,H',os,bare,un,hok',r',q⟩:=h
    have q':v=.bl true:=q
    subst q'
    obtain rfl:u=Value.bool true:=r'
    refine ⟨rfl,OldK.of_keep fun b o e=>?_,os,bare⟩
    cases q:H b with
    | none=>exact un.keep b o e q (by intro z;exact absurd (show b∈([]:List Addr) from z) (by simp)) (by simp)
    | some u=>
     rcases hO b with z|⟨ob,xs,z⟩
     ·rw [q] at z;cases z
     ·have z2:=un.frzs b ob _ z
      obtain ⟨e1,_⟩:=hok b _ z
      obtain ⟨e2,_⟩:=hok' b _ z2
      rw [e] at e1;cases e1
      exact e2
 cases hk:K.lookup a with
 | some o=>
  -- the script is one of the module's own objects
  have e:=KX a o hk
  rw [ha] at e
  cases e
  refine core (fun _=>none) (fun _=>.inl rfl) (.inr ⟨_,vs.toArray,_,hk,rfl,rfl,rfl,by rw [List.size_toArray,lenV];exact hl,by simpa using rv⟩) (fun b u z=>by have z':(none:Option HO)=some u:=z;cases z') (fun b z=>absurd rfl z) fun z=>absurd rfl z
 | none=>
  refine core (fun b=>if b=a then some (.frz { cls:=.type "list",data:=.seq vs.toArray } (.lst (ns.map V.int))) else none) (fun b=>?_) (.inl (.inr ⟨{ cls:=.type "list",data:=.seq vs.toArray },if_pos rfl⟩)) (fun b u z=>?_) (fun b z=>?_) fun _=>hk
  ·by_cases hb:b=a
   ·exact .inr ⟨_,_,if_pos hb⟩
   ·exact .inl (if_neg hb)
  ·by_cases hb:b=a
   ·have z':=(if_pos hb).symm.trans z
    cases z'
    subst hb
    exact ⟨ha,by rw [List.length_map];exact hl,vs,_,rv,ha⟩
   ·have z':=(if_neg hb).symm.trans z
    cases z'
  ·by_cases hb:b=a
   ·exact hb
   ·exact absurd (if_neg hb) z
theorem walk_of {l:PySem.W.OpenLaw} {n k:Nat} {q:Program} {loose:List Str} {XP:(Str->Option Value)->Heap->Prop} {YP:World->Heap->Prop} {d:DefRec} {K:Params->PySem.W.Frag} {CX:World->CXT} {sp:World->Sp} {x:Str}
  (hn:l.most=some n) (hn2:n<=sizeLine) (hdf:d.params.defaults=[]) (hr:Room k callerA)
  (hY:∀(w:World) (h:Heap),YP w h->(K w.params).In h)
  (F:∀(w:World) (mg:Str->Option Value) (fa:Addr) (h:Heap),(K w.params).In h->h.Ns mainGlobals mg->mg d.name=some (.ref fa)->
   ∃fd:FuncData,(∀(s:Shared) (u:Value),BindsTo s fd ⟨[u],[]⟩ [(x,u)]) /\
    ∀base:Heap,(K w.params).In base->base.Ns mainGlobals mg->FnOk l.prog w (K w.params) mg base (CX w) k fa fd [x] (sp w))
  (hsp:∀(w:World) (H:Hp) (a:Addr) (ns:List Int),ns.length<=n->Only H->SqL (K w.params) H a (ns.map V.int)->sp w [.ref a] H (fun v _=>v=.bl true) fun _ _ _=>False)
  (hCX:∀(w:World) (H:Hp) (s:Shared) (e:Value) (s':Shared),CX w [] H s (fun _ _ _=>False) e s'->False) :
  PySem.W.WalkO q loose XP YP l.row.toRowW d [] (fun f vs=>PySem.call f vs):=by
 refine Att.attach_call hn hdf fun w s₀ s₁ mg mb fa o pm cd doc a vs ns G Y ho hd hcd hmg hobj hints hlen hg=>?_
 have KX:=hY w _ Y
 obtain ⟨fd,hb,hF⟩:=F w mg fa _ KX G.T.g hmg
 exact law_call KX G.T.g G.T.b G.T.builtins G.T.nolimit hg hobj hints (Nat.le_trans hlen hn2) hr hF hb (fun H hO hS=>hsp w H a ns hlen hO hS) fun H e s'=>hCX w H s₁ e s'
end L2
/- THE LAST THEOREM (shape;LID,My.* are yours):
  My.Adr: a structure of the addresses that your layer names (classes,functions);My.Txt K t: a structure (Prop) of the equations over K;
  My.txt_mk:{K} {implicit addresses ..} (e1:nsIn K mainGlobals "law"=some (some (.ref f))) (e2:K.lookup f=some ⟨oc,od,.func (fnOf "law" "law" params body scope dV kV doc pm an cdv ct),sl⟩) (e3:codeIn K cdv "law"=true) ..:∃t,My.Txt K t
set_option maxRecDepth 100000 in
set_option maxHeartbeats 0 in
theorem PySem.Challenge.cw_LID_holds : PySem.Challenge.rw_LID.Holds := by
 w_on;o_law;k_head;(case hw=>w_witness2)
 k_fill
 refine L2.walk_of (l:=PySem.Challenge.rw_LID) (n:=63) (k:=40) (x:="script") (CX:=fun w=>..) (sp:=fun _=>My.sp_law) rfl (by decide) rfl ⟨rfl,by decide,by decide⟩ (fun w h Y=>PySem.W.kIn_of Y) ?F ?S ?C
 case F=>
  intro w mg fa h KX G hmg
  have T:∃t,My.Txt (L2.KOf KX) t:=by
   dsimp only [L2.KOf]                          -- K must stand as «<heap const> w.params» for k_is
   refine' My.txt_mk ?e1 ?e2 ?e3 ..
   (case e1=>PySem.W.k_is)                    -- in the order: a name -> its address -> its object -> its parts
   (case e2=>PySem.W.k_is)
   ..
  obtain ⟨t,T⟩:=T
  have e0:=hmg.symm.trans (PySem.W.mg_of KX G T.law)
  cases e0                                       -- fa is the law's own address
  exact ⟨_,fun s u=>.of_eq rfl,fun base kb nb=>My.law_fn T kb nb⟩     -- if «.of_eq rfl» comes too early: refine' ⟨_,?b,fun base kb nb=>My.law_fn T kb nb⟩;exact fun s u=>.of_eq rfl
 case S=>exact fun w H a ns hl hO hS=>..
 case C=>exact ..
(the tactic k_is has no namespace: write k_is) -/
namespace L2
open PySem PySem.Spec PyProof.Rows
def defArgs (s:Stmt):Arguments:=match s with
 | .FunctionDef _ a _ _ _ _ _ _ _ _=>a
 | _=>{ posonlyargs:=[],args:=[],vararg:=none,kwonlyargs:=[],kw_defaults:=[],kwarg:=none,defaults:=[] }
def defBody (s:Stmt):List Stmt:=match s with
 | .FunctionDef _ _ b _ _ _ _ _ _ _=>b
 | _=>[]
def defScope (s:Stmt):Scope:=match s with
 | .FunctionDef _ _ _ _ _ _ sc _ _ _=>sc
 | _=>{ kind:=.function,names:=[],isGenerator:=false,isCoroutine:=false }
abbrev CX0:CXT:=fun _ _ _ _ _ _=>False
abbrev E0:XK:=fun _ _ _=>False
theorem pass0 {X:Cx}:Passes CX0 X E0:=fun _ _ _ _ _ _ _ h=>h.elim
structure Fun (K:PySem.W.Frag) (x qual:Str) (st:Stmt) (f:Addr) (fd:FuncData):Prop where
 ex:∃(oc:Value) (od:Option Addr) (kV doc pm:Value) (an:Option Addr) (cdv ct:Value) (osl:Array (Option Value)),
  fd=PySem.W.fnOf x qual (defArgs st) (defBody st) (defScope st) .none kV doc pm an cdv ct/\K.lookup f=some ⟨oc,od,.func fd,osl⟩/\PySem.W.codeIn K cdv qual=true
 kp:PySem.W.keepIn K (.ref f)=true
section
variable {P:Program} {w:World} {K:PySem.W.Frag} {mg:Str->Option Value} {base:Heap}
theorem Fun.ok {x qual:Str} {st:Stmt} {f:Addr} {fd:FuncData} {N ps:List Str} {k:Nat} {sp:Sp} (F:Fun K x qual st f fd) (S:FnScope N ps (defScope st)) (len:∀vs H Q E,sp vs H Q E->vs.length=ps.length)
  (hbody:∀(cdv:Value) (A:Around) (outer:List Env) (s:Shared) (H:Hp) (vs:List V) (Q:VK) (E:XK),Room k (A.deeper (envOfC qual (defScope st) s.heap.objs.size f cdv))->sp vs H Q E->
   ∃t,PSs (cxOf CX0 P w K mg base N qual (defScope st) f cdv A outer s H E).nox (defBody st) t/\t { nx:=fun _ H'=>Q .non H',rt:=Q } (start N vs) H):FnOk P w K mg base CX0 (k+1) f fd ps sp:=by
 obtain ⟨oc,od,kV,doc,pm,an,cdv,ct,osl,rfl,lk,hcd⟩:=F.ex
 refine fn_of lk hcd S len fun A outer s H vs Q E hr hsp=>?_
 obtain ⟨t,h,q⟩:=hbody cdv A outer s H vs Q E hr hsp
 exact ⟨t,h.nox,q⟩
theorem Fun.binds {x qual:Str} {st:Stmt} {f:Addr} {fd:FuncData} {ps:List Str} (F:Fun K x qual st f fd)
  (h:∀(kV doc pm:Value) (an:Option Addr) (cdv ct:Value) (us:List Value),us.length=ps.length->bindArgs (PySem.W.fnOf x qual (defArgs st) (defBody st) (defScope st) .none kV doc pm an cdv ct) ⟨us,[]⟩=pure (ps.zip us)):Binds K fd ps []:=by
 obtain ⟨oc,od,kV,doc,pm,an,cdv,ct,osl,rfl,lk,hcd⟩:=F.ex
 exact .all (h kV doc pm an cdv ct)
theorem fun_mk {x qual:Str} {st:Stmt} {f:Addr} {oc:Value} {od an:Option Addr} {osl:Array (Option Value)} {kV doc pm cdv ct:Value} (l:K.lookup f=some ⟨oc,od,.func (PySem.W.fnOf x qual (defArgs st) (defBody st) (defScope st) .none kV doc pm an cdv ct),osl⟩)
  (c:PySem.W.codeIn K cdv qual=true) (k:PySem.W.keepIn K (.ref f)=true):Fun K x qual st f (PySem.W.fnOf x qual (defArgs st) (defBody st) (defScope st) .none kV doc pm an cdv ct):=⟨⟨oc,od,kV,doc,pm,an,cdv,ct,osl,rfl,l,c⟩,k⟩
end
section
variable {X:Cx}
theorem pv (i:Nat) {x:Str} {pos:Pos} (hN:X.N[i]? = some x:=by rfl) (hv:Vis X.env.scope x:=by first|exact Or.inl rfl|exact Or.inr (Or.inl rfl)|exact Or.inr (Or.inr rfl)) (hd:(x == ("__debug__":Str))=false:=by decide)
  (hcd:(x == ("__classdict__":Str))=false:=by decide):PE X (.Name x pos) (tVar i):=pe_var hN hv hd hcd
end
theorem ite2 {c A B:Prop} [Decidable c] (h1:c->A) (h2:¬c->B):if c then A else B:=by
 by_cases h:c
 ·rw [if_pos h]
  exact h1 h
 ·rw [if_neg h]
  exact h2 h
def Same (H H':Hp):Prop:=∀b o,H b=some o->H' b=some o
theorem Same.refl (H:Hp):Same H H:=fun _ _ h=>h
theorem Same.trans {H H1 H2:Hp} (a:Same H H1) (b:Same H1 H2):Same H H2:=fun c o h=>b c o (a c o h)
theorem Same.free {H H':Hp} (e:Same H H') {l:Addr} (h:H' l=Option.none):H l=Option.none:=by
 cases q:H l with
 | none=>rfl
 | some o=>
  rw [e l o q] at h
  cases h
theorem Same.seq {K:PySem.W.Frag} {H H':Hp} {a:Addr} {xs:List V} (e:Same H H') (h:SqL K H a xs):SqL K H' a xs:=by
 rcases h with (h|⟨o,h⟩)|h
 ·exact .inl (.inl (e _ _ h))
 ·exact .inl (.inr ⟨o,e _ _ h⟩)
 ·exact .inr h
end L2
set_option maxHeartbeats 4000000
namespace L2
open PySem PySem.Spec PyProof.Rows
def closL (cells:List (Str × Addr)):List (Str × NameKind)->List (Str × Addr)->List (Str × Addr)
 | [],cs=>cs
 | (n,k)::r,cs=>closL cells r (if k == .free then (match cells.lookup n with|some c=>(n,c)::cs|none=>cs) else cs)
theorem closureFor_eq {scope : Scope} {env : Env} (h : ∀ x ∈ scope.names, x.2 = .free → (env.cells.lookup x.1).isSome = true) :
    closureFor scope env = pure (closL env.cells scope.names []) := by
  have all : ∀ (names : List (Str × NameKind)) (cs : List (Str × Addr)), (∀ x ∈ names, x.2 = .free → (env.cells.lookup x.1).isSome = true) →
      (do let mut ds := cs
          for (name, kind) in names do
            if kind == .free then ds := (name, ← cellOf env name) :: ds
          return ds : Sem (List (Str × Addr))) = pure (closL env.cells names cs) := by
    intro names
    induction names with
    | nil => intro cs _; rfl
    | cons y r ih =>
      intro cs hn
      obtain ⟨n, k⟩ := y
      have hr := fun x hx => hn x (List.mem_cons_of_mem _ hx)
      simp only [List.forIn_cons]
      cases hk : k == NameKind.free with
      | false =>
        have e : closL env.cells ((n, k) :: r) cs = closL env.cells r cs := by
          show closL env.cells r (if k == .free then _ else cs) = _
          rw [hk]; rfl
        rw [e, ← ih cs hr]
        simp
      | true =>
        have hk' : k = .free := by simpa using hk
        have hs := hn (n, k) List.mem_cons_self hk'
        obtain ⟨c, hc⟩ := Option.isSome_iff_exists.mp hs
        have e : closL env.cells ((n, k) :: r) cs = closL env.cells r ((n, c) :: cs) := by
          show closL env.cells r (if k == .free then (match env.cells.lookup n with | some c => (n, c) :: cs | none => cs) else cs) = _
          rw [hk, hc]; rfl
        rw [e, ← ih ((n, c) :: cs) hr]
        simp [cellOf, hc]
  have q := all scope.names [] h
  unfold closureFor
  exact q
theorem closL_sub {cells:List (Str × Addr)}:∀{names:List (Str × NameKind)} {cs:List (Str × Addr)} {x:Str} {c:Addr},(closL cells names cs).lookup x=some c->
  cs.lookup x=some c\/cells.lookup x=some c
 | [],_,_,_,h=>.inl h
 | (n,k)::r,cs,x,c,h=>by
  have q:=closL_sub (names:=r) (x:=x) (c:=c) h
  rcases q with q|q
  ·cases hk:k == NameKind.free with
   | false=>rw [hk] at q;exact .inl q
   | true=>
    rw [hk] at q
    cases hc:cells.lookup n with
    | none=>rw [hc] at q;exact .inl q
    | some d=>
     rw [hc] at q
     simp only [if_true,List.lookup_cons] at q
     cases hx:x == n with
     | true=>
      rw [hx] at q
      have e:x=n:=by simpa using hx
      subst e
      rw [hc];exact .inr q
     | false=>rw [hx] at q;exact .inl q
  ·exact .inr q
theorem closL_keep {cells:List (Str × Addr)}:∀{names:List (Str × NameKind)} {cs:List (Str × Addr)} {x:Str} {c:Addr},cs.lookup x=some c->∃d,(closL cells names cs).lookup x=some d
 | [],_,_,c,h=>⟨c,h⟩
 | (n,k)::r,cs,x,c,h=>by
  show ∃d,(closL cells r _).lookup x=some d
  have more:∃d,(if k == NameKind.free then (match cells.lookup n with|some c=>(n,c)::cs|none=>cs) else cs).lookup x=some d:=by
   cases hk:k == NameKind.free with
   | false=>exact ⟨c,h⟩
   | true=>
    cases hc:cells.lookup n with
    | none=>exact ⟨c,h⟩
    | some d=>
     simp only [if_true,List.lookup_cons]
     cases hx:x == n with
     | true=>exact ⟨d,rfl⟩
     | false=>exact ⟨c,h⟩
  obtain ⟨d,hd⟩:=more
  exact closL_keep hd
theorem closL_has {cells:List (Str × Addr)}:∀{names:List (Str × NameKind)} {cs:List (Str × Addr)} {x:Str},(x,NameKind.free)∈names->(cells.lookup x).isSome=true->∃d,(closL cells names cs).lookup x=some d
 | (n,k)::r,cs,x,hm,hs=>by
  rcases List.mem_cons.mp hm with e|hm
  ·cases e
   obtain ⟨c,hc⟩:=Option.isSome_iff_exists.mp hs
   show ∃d,(closL cells r _).lookup _=some d
   refine closL_keep (c:=c) ?_
   simp [hc]
  ·exact closL_has (names:=r) hm hs
def cxComp (X:Cx) (scope:Scope) (N:List Str) (C:Addr) (s:Shared) (H:Hp) (fp:List Addr):Cx where
 prog:=X.prog
 w:=X.w
 K:=X.K
 mg:=X.mg
 base:=X.base
 A:=X.A
 N:=N
 s₀:=s
 H₀:=H
 env:=compEnvC scope (closL X.env.cells scope.names []) C X.env
 outer:=X.stack
 stack:=X.stack
 ex:=fp
 calm:=true
 fn:=fun _=>false
 pn:=[]
 xe:=fun _ _=>False
structure CompScope (X:Cx) (scope:Scope) (N:List Str) (k:Nat):Prop where
 kind:scope.kind=.function
 nocell:∀y∈scope.names,y.2≠.cell
 nd:N.Nodup
 len:N.length=k+X.N.length
 loc:∀x∈scope.names,x.2=.local->scope.names.lookup x.1=some .local
 free:∀x∈scope.names,x.2=.free->X.env.kindOf x.1=some .cell\/X.env.kindOf x.1=some .free
 own:∀i x,i<k->N[i]? = some x->scope.names.lookup x=some .local
 out:∀i x,N[k+i]? = some x->(scope.names.lookup x).isSome=true->X.N[i]? = some x/\scope.names.lookup x=some .free\/scope.names.lookup x=some .globalImplicit
def tYes:TT:=fun _ H k=>k true H
def tComp (k:Nat) (wi:TI) (g:TG) (tt:TT) (te:TE):TE:=fun σ H Q=>wi σ H fun J H1=>∃W:Nat->Nat->List V->St->Hp->Prop,(∃m,W 0 m [] (List.replicate k none++σ) H1) /\
 ∀i m ys σ1 H',W i m ys σ1 H'->
  (J.stop i H'/\∀D,H' D=none->Q (.ref D) (upd H' D (.lst ys))) \/
  (J.go i H'/\ys.length<sizeLine/\∃N:List V->St->Hp->Prop,(∀zs σ' H'',N zs σ' H''->∃m',m'<m/\W (i+1) m' zs σ' H'') /\
   ∀x H2,J.yld i H' x H2->g x σ1 H2 fun σ2 H3=>tt σ2 H3 fun b H4=>if b=true then te σ2 H4 fun y H5=>N (ys++[y]) σ2 H5 else N ys σ2 H4)
theorem lookup_relabel {env:Env}:∀{names:List (Str × NameKind)} {x:Str} {k:NameKind},names.lookup x=some k->
  (names.map fun (n,k)=>if (k == NameKind.free && env.scope.kind == .function && env.kindOf n == some .cell) then (n,NameKind.cell) else (n,k)).lookup x
   = some (if (k == NameKind.free && env.scope.kind == .function && env.kindOf x == some .cell) then NameKind.cell else k)
 | [],_,_,h=>by simp at h
 | (n,k)::r,x,k',h=>by
  have ih:=@lookup_relabel env r x k'
  show List.lookup x ((if (k == NameKind.free && env.scope.kind == .function && env.kindOf n == some .cell)=true then (n,NameKind.cell) else (n,k))::_)=_
  cases hx:x == n with
  | true=>
   simp only [List.lookup_cons,hx] at h
   cases h
   have e:x=n:=by simpa using hx
   subst e
   by_cases hc:(k == NameKind.free && env.scope.kind == .function && env.kindOf x == some .cell)=true
   ·rw [if_pos hc,if_pos hc];simp [List.lookup_cons]
   ·rw [if_neg hc,if_neg hc];simp [List.lookup_cons]
  | false=>
   simp only [List.lookup_cons,hx] at h
   by_cases hc:(k == NameKind.free && env.scope.kind == .function && env.kindOf n == some .cell)=true
   ·rw [if_pos hc];simp only [List.lookup_cons,hx];exact ih h
   ·rw [if_neg hc];simp only [List.lookup_cons,hx];exact ih h
theorem lookup_relabel_none {env:Env}:∀{names:List (Str × NameKind)} {x:Str},names.lookup x=none->
  (names.map fun (n,k)=>if (k == NameKind.free && env.scope.kind == .function && env.kindOf n == some .cell) then (n,NameKind.cell) else (n,k)).lookup x=none
 | [],_,_=>rfl
 | (n,k)::r,x,h=>by
  have ih:=@lookup_relabel_none env r x
  show List.lookup x ((if (k == NameKind.free && env.scope.kind == .function && env.kindOf n == some .cell)=true then (n,NameKind.cell) else (n,k))::_)=_
  cases hx:x == n with
  | true=>
   simp only [List.lookup_cons,hx] at h
   cases h
  | false=>
   simp only [List.lookup_cons,hx] at h
   by_cases hc:(k == NameKind.free && env.scope.kind == .function && env.kindOf n == some .cell)=true
   ·rw [if_pos hc];simp only [List.lookup_cons,hx];exact ih h
   ·rw [if_neg hc];simp only [List.lookup_cons,hx];exact ih h
def PTs (X:Cx) (ifs:List Expr) (t:TT):Prop:=
 ∀(pins:List (Addr × Obj)) (s:Shared) (σ:St) (H:Hp) (Q:Bool->Hp->Prop),Inv X pins σ H s->t σ H Q->
  wpAny (model X.prog X.w) X.A (forIn ifs true fun c r=>if r=true then do let ok <-isTrue c X.env (eval c X.env);pure (ForInStep.yield ok) else pure (ForInStep.yield r)) (TP X pins σ Q) X.xe s
theorem pts_nil {X:Cx}:PTs X [] tYes:=fun _ _ _ H _ I h=>wpAny_tests_nil ⟨H,I,h⟩
theorem pts_one {X:Cx} {c:Expr} {t:TT} (h:PT X c t):PTs X [c] t:=fun pins s σ H Q I hq=>wpAny_tests_one (h pins s σ H Q I hq)
section
variable {X:Cx} {scope:Scope} {N:List Str} {k:Nat} {pins:List (Addr × Obj)} {σ:St} {H:Hp} {s:Shared} {fp:List Addr}
theorem comp_start {h:Heap} {D:Addr} {C:Addr} {oD:Obj} {t':Nat} (S:CompScope X scope N k) (hc:X.calm=true) (I:Inv X pins σ H s) (hf:∀b∈fp,FpOk X pins H b) (ho:∀b∈fp,∃o,s.heap.get? b=some o/\∀v,o.data≠.cell v)
  (hC:s.heap.objs.size<C) (hD:D=s.heap.objs.size) (keep:∀b o,s.heap.get? b=some o->h.get? b=some o) (hDo:h.get? D=some oD) (hDc:∀v,oD.data≠.cell v) (hn:h.Ns C (fun _=>none)) :
  Inv (cxComp X scope N C s H fp) [(D,oD)] (List.replicate k none++σ) H { s with heap:=h,toks:=t' }:=by
 have fpLt:∀b∈fp,b<s.heap.objs.size:=fun b hb=>by obtain ⟨o,e,_⟩:=ho b hb;exact Heap.lt_size e
 have sub:∀x c,(closL X.env.cells scope.names []).lookup x=some c->X.env.cells.lookup x=some c:=fun x c e=>by
  rcases closL_sub e with z|z
  ·simp at z
  ·exact z
 have cellLt:∀x c,X.env.cells.lookup x=some c->c<s.heap.objs.size:=fun x c e=>by
  obtain ⟨v,q⟩:=I.cell x c e
  exact q.lt
 have cellK:∀c v,s.heap.IsCell c v->h.IsCell c v:=fun c v ⟨o,e,d⟩=>⟨o,keep c o e,d⟩
 refine ⟨⟨I.ok.mod,S.kind,?_,?_,Nat.le_of_lt hC,fun x y c h1 h2=>I.ok.inj x y c (sub x c h1) (sub y c h2),fun x hx=>?_,fun x c z=>absurd (show false=true from z) Bool.false_ne_true,fun _=>I.ok.hd hc,I.ok.frames,.inl rfl,fun b hb=>⟨Nat.ne_of_lt (Nat.lt_trans (fpLt b hb) hC),fun x c e=>(hf b hb).2.2.2.2.1 x c (sub x c e)⟩,
   I.bs,Nat.le_trans I.ok.bsz I.sz,fun b o e hb=>?_,fun b hb z=>?_,I.stack,I.stkFree⟩,rfl,I.bare,Un.kept keep,⟨_,hn,fun i x v e1 e2 e3=>?_⟩,fun x c e=>?_,I.hok.fresh (Nat.le_of_lt hC),fun x c e=>I.freeC x c (sub x c e),fun p hp=>?_,I.hok.kept keep,?_⟩
 ·exact I.ok.glob
 ·exact I.ok.blt
 ·-- every captured name has its cell
  have hx':(relabel scope X.env).names.lookup x=some .cell\/(relabel scope X.env).names.lookup x=some .free:=hx
  cases hl:scope.names.lookup x with
  | none=>
   have q:=lookup_relabel_none (env:=X.env) hl
   unfold relabel at hx'
   rcases hx' with z|z<;>(rw [q] at z;cases z)
  | some kd=>
   have q:=lookup_relabel (env:=X.env) hl
   have hm:=PySem.mem_of_lookup hl
   have hfr:kd=.free:=by
    by_cases z:kd=.free
    ·exact z
    ·unfold relabel at hx'
     have z':(kd == NameKind.free)=false:=by simpa using z
     rw [z'] at q
     simp only [Bool.false_and,Bool.false_eq_true,if_false] at q
     rcases hx' with y|y
     ·rw [q] at y
      have y':kd=.cell:=Option.some.inj y
      exact absurd y' (S.nocell _ hm)
     ·rw [q] at y;exact absurd (Option.some.inj y) z
   subst hfr
   obtain ⟨c,hc'⟩:=I.ok.has x (S.free _ hm rfl)
   exact closL_has hm (by rw [hc'];rfl)
 ·-- the base's records are no iterator's
  obtain ⟨_,_,_,z,_⟩:=hf b hb
  rcases z with z|z
  ·exact I.ok.noex b o e z
  ·exact absurd (Nat.lt_of_lt_of_le (Heap.lt_size e) (Nat.le_trans I.ok.bsz z)) (Nat.lt_irrefl _)
 ·obtain ⟨_,z1,z2,_⟩:=hf b hb
  rcases List.mem_cons.mp (I.stkSub b z) with y|y
  ·exact z1 y
  ·exact z2 y
 ·-- the names
  have e1':N[i]? = some x:=e1
  by_cases hi:i<k
  ·rw [List.getElem?_append_left (by simpa using hi),List.getElem?_replicate,if_pos hi] at e2
   cases e2
  ·obtain ⟨j,rfl⟩:∃j,i=k+j:=⟨i - k,by omega⟩
   rw [List.getElem?_append_right (by simp),List.length_replicate,Nat.add_sub_cancel_left] at e2
   have e3':(relabel scope X.env).names.lookup x=some .local\/(relabel scope X.env).names.lookup x=some .cell\/(relabel scope X.env).names.lookup x=some .free:=e3
   cases hl:scope.names.lookup x with
   | none=>
    have q:=lookup_relabel_none (env:=X.env) hl
    unfold relabel at e3'
    rcases e3' with z|z|z<;>(rw [q] at z;cases z)
   | some kd=>
    have q:=lookup_relabel (env:=X.env) hl
    rcases S.out j x e1' (by rw [hl];rfl) with ⟨o1,o2⟩|o
    ·rw [hl] at o2;cases o2
     have hm:=PySem.mem_of_lookup hl
     have hv:Vis X.env.scope x:=by
      rcases S.free _ hm rfl with z|z
      ·exact .inr (.inl z)
      ·exact .inr (.inr z)
     obtain ⟨m,hns,hlk⟩:=I.loc
     obtain ⟨u,r,l⟩:=hlk j x v o1 e2 hv
     refine ⟨u,r,.inr ⟨?_,?_⟩⟩
     ·show (relabel scope X.env).names.lookup x=some .cell\/(relabel scope X.env).names.lookup x=some .free
      unfold relabel
      rw [q]
      split
      ·exact .inl rfl
      ·exact .inr rfl
     ·rcases l with ⟨z,_⟩|⟨_,c,e,z⟩
      ·rcases S.free _ hm rfl with y|y<;>(rw [show X.env.kindOf x=some NameKind.local from z] at y;cases y)
      ·obtain ⟨d,hd⟩:=closL_has (cs:=[]) hm (by rw [e];rfl)
       have hd':=sub x d hd
       rw [e] at hd';cases hd'
       exact ⟨c,hd,cellK _ _ z⟩
    ·rw [hl] at o;cases o
     simp only [show (NameKind.globalImplicit == NameKind.free)=false from rfl,Bool.false_and,Bool.false_eq_true,if_false] at q
     unfold relabel at e3'
     rcases e3' with z|z|z<;>(rw [q] at z;cases z)
 ·obtain ⟨v,q⟩:=I.cell x c (sub x c e)
  exact ⟨v,cellK _ _ q⟩
 ·have e:p=(D,oD):=by
   have hp':p∈([]:List (Addr × Obj))++[(D,oD)]:=hp
   simpa using hp'
  subst e
  refine ⟨hDo,I.hok.fresh (by rw [hD];exact Nat.le_refl _),?_,fun z=>?_,hDc⟩
  ·show D≠C
   rw [hD];exact Nat.ne_of_lt hC
  ·have:=I.stkSub D z
   rcases List.mem_cons.mp this with y|y
   ·rw [hD] at y;exact absurd I.lt (by rw [<-y];exact Nat.lt_irrefl _)
   ·exact I.nofs (by rw [hD];exact Nat.le_refl _) y
 ·show (List.replicate k none++σ).length=N.length
  rw [List.length_append,List.length_replicate,S.len,I.len]
end
section
variable {X:Cx} {scope:Scope} {N:List Str} {k:Nat} {pins:List (Addr × Obj)} {σ:St} {H:Hp} {s:Shared} {fp:List Addr}
theorem comp_end {h':Heap} {D C:Addr} {σ1:St} {H1:Hp} {s1:Shared} {ys:List V} {its:List Value} {n:Nat} (I:Inv X pins σ H s) (hf:∀b∈fp,FpOk X pins H b)
  (hC:s.heap.objs.size<C) (hD:D=s.heap.objs.size)
  (J:Inv (cxComp X scope N C s H fp) [(D,{ cls:=.type "list",data:=.seq its.toArray n })] σ1 H1 s1) (rv:Vals ys its) (hz:ys.length<=sizeLine) (sb:Heap.SameBut C s1.heap h') :
  Inv X pins σ (upd H1 D (.lst ys)) { s1 with heap:=h' }:=by
 obtain ⟨eD,nD,neC,_,_⟩:=J.pin (D,{ cls:=.type "list",data:=.seq its.toArray n }) (by simp)
 have neC':D≠C:=neC
 have nC:H1 C=none:=J.free
 have B:Un (frs X.stack) fp H H1 s.heap s1.heap:=J.base
 have lt:∀{b:Addr} {o:Obj},s.heap.get? b=some o->b≠C/\b≠D:=fun {b o} e=>⟨Nat.ne_of_lt (Nat.lt_trans (Heap.lt_size e) hC),by rw [hD];exact Nat.ne_of_lt (Heap.lt_size e)⟩
 refine I.call' (s':={ s1 with heap:=h' }) (ch:=fp) (show s1.os=s.os from J.os) ?_ ?_ J.bare fun b hb=>?_
 ·refine ⟨fun b o q n hb hx=>(sb.2 b (lt q).1).trans (B.keep b o q n hb hx),fun b o q n hb hx=>?_,fun b o q n hx=>?_,fun b o q hx=>?_,fun b xs q=>?_,fun b o xs q=>?_,fun b ps q=>?_⟩
  ·obtain ⟨sl,e⟩:=B.slot b o q n hb hx
   exact ⟨sl,(sb.2 b (lt q).1).trans e⟩
  ·rw [upd_ne (lt q).2];exact B.free b o q n hx
  ·obtain ⟨o',e⟩:=B.there b o q hx
   exact ⟨o',(sb.2 b (lt q).1).trans e⟩
  ·have e:=B.tups b xs q
   rw [upd_ne (ne_of_none e nD)];exact e
  ·have e:=B.frzs b o xs q
   rw [upd_ne (ne_of_none e nD)];exact e
  ·obtain ⟨m,e⟩:=B.tbls b ps q
   exact ⟨m,by rw [upd_ne (ne_of_none e nD)];exact e⟩
 ·intro a o e
  by_cases ha:a=D
  ·subst ha
   rw [upd_same] at e;cases e
   exact ⟨hz,its,n,rv,(sb.2 _ neC').trans eD⟩
  ·rw [upd_ne ha] at e
   refine (J.hok a o e).stay (fun b u hb q=>(sb.2 b ?_).trans q) (fun b q=>?_) fun b xs q=>?_
   ·rcases hb with rfl|hb
    ·exact ne_of_none e nC
    ·exact ne_of_none hb nC
   ·rw [upd_ne (ne_of_none q nD)];exact q
   ·rw [upd_ne (ne_of_none q nD)];exact q
 ·obtain ⟨_,z1,z2,z3,z4,z5⟩:=hf b hb
  exact ⟨z3,z1,z4,z5⟩
theorem codeAny_compLoop_gen {prog:Program} {w:World} {A:Around} {elt target iter:Expr} {ifs:List Expr} {scope:Scope} {pos:Pos} {it acc:Value} {env:Env} {R:Result->Shared->Prop} {s:Shared} (I:Nat->Shared->Prop)
  (turn:∀n s,I n s->wpAny (model prog w) A (pyNext it) (fun r s₁=>match r with
   | none=>R (.ok .next) s₁
   | some v=>wpAny (model prog w) A (letOwnedTupleGo target it v) (fun _ s₁'=>wpAny (model prog w) A (assign target env v) (fun _ s₂=>
     wpAny (model prog w) A (forIn ifs true fun c r=>if r=true then do let ok <-isTrue c env (eval c env);pure (ForInStep.yield ok) else pure (ForInStep.yield r)) (fun ok s₃=>
      if ok=true then wpAny (model prog w) A (eval elt env) (fun x s₄=>
       wpAny (model prog w) A (call (.builtin "list.append") [acc,x]) (fun _ s₅=>∃m,m<n/\I m s₅) (fun _ _=>False) s₄) (fun _ _=>False) s₃
      else ∃m,m<n/\I m s₃) (fun _ _=>False) s₂) (fun _ _=>False) s₁') (fun _ _=>False) s₁) (fun _ _=>False) s)
  (n:Nat) (h:I n s):codeAny (model prog w) A (.compLoop (.ListComp elt [⟨target,iter,ifs,0⟩] scope pos) 0 it acc env) R s:=by
 refine codeAny_loop rfl I (fun n s hI=>?_) n h
 show wpAny _ A ((compTurn (.ListComp elt [⟨target,iter,ifs,0⟩] scope pos) 0 it acc env).onRaise (fun x=>do noteFrame x env;theTreesLotGoes x)) _ _ s
 refine wpAny_noted ?_
 rw [compTurn_list]
 refine wpAny_bind (wpAny_standAt (wpAny_bind (wpAny_mono (turn n s hI) (fun r s₁ h₁=>?_) fun _ _ h'=>h'.elim)))
 cases r with
 | none=>exact wpAny_pure h₁
 | some v=>
  refine wpAny_bind (wpAny_mono h₁ (fun _ s₁' h₁'=>?_) fun _ _ h'=>h'.elim)
  refine wpAny_bind (wpAny_mono h₁' (fun _ s₂ h₂=>wpAny_bind (wpAny_mono h₂ (fun ok s₃ h₃=>?_) fun _ _ h'=>h'.elim)) fun _ _ h'=>h'.elim)
  cases ok with
  | false=>exact wpAny_pure ⟨rfl,h₃⟩
  | true=>
   exact wpAny_bind (wpAny_bind (wpAny_mono h₃ (fun x s₄ h₄=>wpAny_bind (wpAny_mono h₄ (fun _ s₅ h₅=>wpAny_pure (wpAny_pure ⟨rfl,h₅⟩)) fun _ _ h'=>h'.elim)) fun _ _ h'=>h'.elim))
theorem comp_run {elt iter tg:Expr} {ifs:List Expr} {pos fpos:Pos} {wi:TI} {g:TG} {tt:TT} {te:TE} {use:Option (Value->Sem Unit)} {Qc:Value->Shared->Prop} {Q:VK} (S:CompScope X scope N k) (hc:X.calm=true) (hi:PI X tg iter wi)
  (hg:∀C s H fp,PG (cxComp X scope N C s H fp) tg g) (ht:∀C s H fp,PTs (cxComp X scope N C s H fp) ifs tt) (he:∀C s H fp,PE (cxComp X scope N C s H fp) elt te)
  (hs:∀x,foldedSetIterable iter X.env x=pure x) (I:Inv X pins σ H s) (h:tComp k wi g tt te σ H Q)
  (fin:∀(s2:Shared) (H2:Hp) (fp:List Addr) (C:Addr) (σ5:St) (H5:Hp) (s5:Shared) (ys:List V) (its:List Value) (n:Nat),Inv X pins σ H2 s2->(∀b∈fp,FpOk X pins H2 b)->s2.heap.objs.size<C->
   Inv (cxComp X scope N C s2 H2 fp) [(s2.heap.objs.size,{ cls:=.type "list",data:=.seq its.toArray n })] σ5 H5 s5->Vals ys its->ys.length<=sizeLine->Q (.ref s2.heap.objs.size) (upd H5 s2.heap.objs.size (.lst ys))->
   compPost (model X.prog X.w) X.A X.xe use Qc (.ref s2.heap.objs.size) C (.ok .next) s5) :
  wpAny (model X.prog X.w) X.A (comprehension (.ListComp elt [⟨tg,iter,ifs,0⟩] scope pos) scope X.env fpos (newList []) false (eval iter X.env) use) Qc X.xe s:=by
 have hclos:closureFor scope X.env=pure (closL X.env.cells scope.names []):=closureFor_eq fun x hx hk=>by
  obtain ⟨c,e⟩:=I.ok.has x.1 (S.free x hx hk)
  rw [e];rfl
 refine wpAny_comprehension_free (use:=use) rfl hs hclos S.kind S.loc (thn (hi pins s σ H _ I h) fun v s1 h1=>thn h1 fun itv s2 h2=>?_)
 obtain ⟨it,fp,tn,J,H2,e,I2,T,st2,f2,W,⟨m0,w0⟩,turn⟩:=h2
 subst e
 have ho2:=T.obj 0 _ st2
 have fpLt:∀b∈fp,b<s2.heap.objs.size:=fun b hb=>by obtain ⟨o,e,_⟩:=ho2 b hb;exact Heap.lt_size e
 refine wpAny_newObj_type (wpAny_newFunctionEnv S.nocell (by intro y hy;simp at hy) (fun h₁ hns₁ hsb₁=>?_) S.kind)
 dsimp only at hns₁ hsb₁ ⊢
 generalize hH2:s2.heap.push { cls:=.type "list",dict:=none,data:=.seq ([]:List Value).toArray }=HH at hns₁ hsb₁ ⊢
 have hCs:HH.objs.size=s2.heap.objs.size+1:=by rw [<-hH2,Heap.size_push]
 have hC:s2.heap.objs.size<HH.objs.size:=by rw [hCs];exact Nat.lt_succ_self _
 have old:∀b o,s2.heap.get? b=some o->h₁.get? b=some o:=fun b o e=>hsb₁.extBut b o (Nat.ne_of_lt (Nat.lt_trans (Heap.lt_size e) hC)) (Heap.get?_push_of_some _ (hH2▸Heap.get?_push_of_some _ e))
 have hacc:h₁.get? s2.heap.objs.size=some { cls:=.type "list",data:=.seq ([]:List Value).toArray }:=hsb₁.extBut _ _ (Nat.ne_of_lt hC) (Heap.get?_push_of_some _ (hH2▸Heap.get?_push_size _ rfl))
 generalize HH.objs.size=C at *
 let X':=cxComp X scope N C s2 H2 fp
 have stat:∀{H':Hp} {o:Obj},(∀b∈fp,H' b=none)->∀b∈fp,FpOk X' [(s2.heap.objs.size,o)] H' b:=fun {H' o} hn b hb=>by
  obtain ⟨z0,z1,z2,z3,z4,z5⟩:=f2 b hb
  refine ⟨hn b hb,Nat.ne_of_lt (Nat.lt_trans (fpLt b hb) hC),fun z=>?_,.inl hb,fun x c e=>?_,fun p hp=>?_⟩
  ·rcases List.mem_cons.mp (I2.stkSub b z) with y|y
   ·exact z1 y
   ·exact z2 y
  ·rcases closL_sub (show (closL X.env.cells scope.names []).lookup x=some c from e) with y|y
   ·simp at y
   ·exact z4 x c y
  ·have e:p=(s2.heap.objs.size,o):=by
    have hp':p∈([]:List (Addr × Obj))++[(s2.heap.objs.size,o)]:=hp
    simpa using hp'
   subst e
   exact Ne.symm (Nat.ne_of_lt (fpLt b hb))
 have I3:Inv X' [(s2.heap.objs.size,{ cls:=.type "list",data:=.seq ([]:List Value).toArray })] (List.replicate k none++σ) H2 { s2 with heap:=h₁,toks:=s2.toks+([]:List (Str × Value)).length }:=
  comp_start S hc I2 f2 ho2 hC rfl old hacc (fun v z=>by cases z) (by simpa using hns₁)
 have loop:∀s₃:Shared,s₃={ s2 with heap:=h₁,toks:=s2.toks+([]:List (Str × Value)).length }->
   codeAny (model X.prog X.w) X.A (.compLoop (.ListComp elt [⟨tg,iter,ifs,0⟩] scope pos) 0 (.ref it) (.ref s2.heap.objs.size) (compEnvC scope (closL X.env.cells scope.names []) C X.env))
    (compPost (model X.prog X.w) X.A X.xe use Qc (.ref s2.heap.objs.size) C) s₃:=by
  rintro s₃ rfl
  refine codeAny_compLoop_gen (fun m s'=>∃i ys its n σ' H',Inv X' [(s2.heap.objs.size,{ cls:=.type "list",data:=.seq (its:List Value).toArray n })] σ' H' s'/\Vals ys its/\ys.length<=sizeLine/\tn i s'.heap/\(∀b∈fp,H' b=none)/\W i m ys σ' H') ?_ m0
   ⟨0,[],[],0,_,H2,I3,.nil,Nat.zero_le _,T.keep _ _ _ st2 fun b _ o e=>old b o e,fun b hb=>(f2 b hb).1,w0⟩
  rintro m s4 ⟨i,ys,its,n,σ4,H4,I4,rv,hz,st4,fr4,w4⟩
  rcases turn i m ys σ4 H4 w4 with ⟨stop,qn⟩|⟨go,hlt,M,hM,step⟩
  ·refine thn (T.done X' rfl rfl rfl rfl i _ s4 σ4 H4 (fun _ _=>False) I4 (stat fr4) st4 stop) fun r s5 ⟨hr,I5⟩=>?_
   subst hr
   have nD:=(I5.pin (s2.heap.objs.size,{ cls:=.type "list",data:=.seq its.toArray n }) (by simp)).2.1
   exact fin s2 H2 fp C _ _ _ ys its n I2 f2 hC I5 rv hz (qn _ nD)
  ·refine thn (T.item X' rfl rfl rfl rfl i _ s4 σ4 H4 (fun _ _=>False) I4 (stat fr4) st4 go) fun r s5 ⟨u,hr,h5⟩=>?_
   subst hr
   refine thn h5 fun _ s6 ⟨x,H6,I6,r6,y6,st6,fr6⟩=>?_
   have I6':=I6.pinned (stat fr6) (T.obj _ _ st6)
   have back:∀{σ7:St} {H7:Hp} {s7:Shared},Inv X' ([(s2.heap.objs.size,{ cls:=.type "list",data:=.seq its.toArray n })]++pinsAt fp s6.heap) σ7 H7 s7->tn (i+1) s7.heap/\∀b∈fp,H7 b=none:=fun {σ7 H7 s7} I7=>by
    refine ⟨T.keep _ _ _ st6 fun b hb o e=>(I7.pin (b,o) (List.mem_append_right _ (List.mem_append_right _ (mem_pinsAt hb e)))).1,fun b hb=>?_⟩
    obtain ⟨o,e,d⟩:=T.obj _ _ st6 b hb
    exact (I7.pin (b,o) (List.mem_append_right _ (List.mem_append_right _ (mem_pinsAt hb e)))).2.1
   refine thn (hg C s2 H2 fp _ s6 σ4 H6 x u _ I6' r6 (step x H6 y6)) fun _ s7 ⟨σ7,H7,I7,q7⟩=>?_
   refine thn (ht C s2 H2 fp _ s7 σ7 H7 _ I7 q7) fun b s8 ⟨H8,I8,q8⟩=>?_
   cases b with
   | false=>
    rw [if_neg Bool.false_ne_true] at q8 ⊢
    obtain ⟨m',hm,w'⟩:=hM _ _ _ q8
    obtain ⟨t8,f8⟩:=back I8
    exact ⟨m',hm,i+1,ys,its,n,σ7,H8,I8.unpinned,rv,hz,t8,f8,w'⟩
   | true=>
    rw [if_pos rfl] at q8 ⊢
    refine thn (he C s2 H2 fp _ s8 σ7 H8 _ I8 q8) fun y s9 ⟨z,H9,I9,r9,q9⟩=>?_
    obtain ⟨t9,f9⟩:=back I9
    have I9u:=I9.unpinned
    obtain ⟨eD,nD,neC,nfD,_⟩:=I9u.pin (s2.heap.objs.size,{ cls:=.type "list",data:=.seq its.toArray n }) (by simp)
    refine call_meets F.slot_list_append ⟨_,eD,rfl⟩ F.entry_list_append (F.args_list_append_2 _ _) (PySem.list_append s2.heap.objs.size its.toArray n y (by rw [List.size_toArray,<-rv.length];omega)) ⟨eD,?_⟩
    obtain ⟨m',hm,w'⟩:=hM _ _ _ q9
    have q:=PySem.IsL.update eD (fun a=>a.push y)
    have eA:(its.toArray.push y)=(its++[y]).toArray:=by simp
    have q':∃n',(s9.heap.update s2.heap.objs.size (Obj.mapSeq fun a=>a.push y)).get? s2.heap.objs.size=some { cls:=.type "list",data:=.seq (its++[y]).toArray n' }:=by
     rw [<-eA];exact ⟨_,q⟩
    obtain ⟨n',q'⟩:=q'
    have kp:∀b o,b≠s2.heap.objs.size->s9.heap.get? b=some o->(s9.heap.update s2.heap.objs.size (Obj.mapSeq fun a=>a.push y)).get? b=some o:=fun b o hb e=>(Heap.get?_update_other s9.heap _ (Ne.symm hb)).trans e
    have I9n:Inv X' [] σ7 H9 s9:=I9u.pins_of fun p hp=>nomatch hp
    have I10:Inv X' [] σ7 H9 { s9 with heap:=s9.heap.update s2.heap.objs.size (Obj.mapSeq fun a=>a.push y),toks:=s9.toks }:=
     I9n.turned (t':=s9.toks) kp nD neC (.inr (Nat.le_refl _)) (fun x c e=>by
      rcases closL_sub (show (closL X.env.cells scope.names []).lookup x=some c from e) with w|w
      ·simp at w
      ·obtain ⟨v,zc⟩:=I2.cell x c w
       exact Nat.ne_of_lt zc.lt) (fun p hp=>nomatch hp)
    refine ⟨m',hm,i+1,ys++[z],its++[y],n',σ7,H9,?_,rv.append (.cons r9 .nil),?_,?_,f9,w'⟩
    ·refine I10.pins_of fun p hp=>?_
     have e:p=(s2.heap.objs.size,{ cls:=.type "list",data:=.seq (its++[y]).toArray n' }):=by simpa using hp
     subst e
     exact ⟨q',nD,neC,nfD,fun v w=>by cases w⟩
    ·rw [List.length_append,List.length_singleton];omega
    ·exact T.keep _ _ _ t9 fun b hb o e=>kp b o (Nat.ne_of_lt (fpLt b hb)) e
 exact codeAny_compStart_list (loop _ rfl) (T.self _ 0 _ _ _ (T.keep _ _ _ st2 fun b _ o e=>old b o e) (loop _ rfl))
theorem pe_comp {elt iter tg:Expr} {ifs:List Expr} {pos:Pos} {wi:TI} {g:TG} {tt:TT} {te:TE} (S:CompScope X scope N k) (hc:X.calm=true) (hi:PI X tg iter wi)
  (hg:∀C s H fp,PG (cxComp X scope N C s H fp) tg g) (ht:∀C s H fp,PTs (cxComp X scope N C s H fp) ifs tt) (he:∀C s H fp,PE (cxComp X scope N C s H fp) elt te)
  (hs:∀x,foldedSetIterable iter X.env x=pure x:=by intro _;rfl):PE X (.ListComp elt [⟨tg,iter,ifs,0⟩] scope pos) (tComp k wi g tt te):=by
 intro pins s σ H Q I h
 rw [eval_ListComp]
 refine comp_run S hc hi hg ht he hs I h fun s2 H2 fp C σ5 H5 s5 ys its n I2 f2 hC I5 rv hz q=>?_
 obtain ⟨mC,hnC,_⟩:=I5.loc
 refine ⟨mC,hnC,fun h' sb=>?_⟩
 exact ⟨.ref s2.heap.objs.size,_,comp_end I2 f2 hC rfl I5 rv hz sb,rfl,q⟩
end
section
variable {prog:Program} {w:World} {A:Around} {E:Value->Shared->Prop} {s:Shared}
theorem alive_any {M:Model} {a:Addr} {Q:Option Obj->Shared->Prop} (h:Q (s.heap.get? a) s):wpAny M A (loadIfAlive a) Q E s:=fun _ _ _=>h
def EnS (h:Heap) (e it:Addr) (i:Nat):Prop:=
 ∃f0 f1 f5:Value,h.get? e=some { cls:=.type "enumerate",dict:=none,data:=.fields #[f0,f1,.ref it,rawInt (i:Int),.none,f5],slots:=#[] } /\
  ((f0=.none/\f1=.bool false)\/∃(a:Addr) (o:Obj),f0=rawInt (a:Int)/\h.get? a=some o/\a≠e/\a≠it)
theorem en_next {e it l:Addr} {i:Nat} {items:Array Value} {x:Value} {Q:Option Value->Shared->Prop}
  (he:EnS s.heap e it i) (hit:s.heap.IsListIter it l i) (hl:s.heap.IsList l items) (hx:items[i]? = some x) (hne:e≠it)
  (hQ:∀h' tk,EnS h' e it (i+1)->h'.IsListIter it l (i+1)->h'.get? s.heap.objs.size=some { cls:=.type "tuple",data:=.seq #[.int (i:Int) tk,x] }->
   (∀b o,b≠e->b≠it->s.heap.get? b=some o->h'.get? b=some o)->Q (some (.ref s.heap.objs.size)) { s with heap:=h',toks:=tk+1 }) :
  wpAny (model prog w) A (pyNext (.ref e)) Q E s:=by
 obtain ⟨f0,f1,f5,he,hf⟩:=he
 have hel:e<s.heap.objs.size:=Heap.lt_size he
 have hil:it<s.heap.objs.size:=by obtain ⟨o,ho,_⟩:=hit;exact Heap.lt_size ho
 rcases hf with ⟨rfl,rfl⟩|⟨a,oa,rfl,ha,hae,hai⟩
 ·refine wpAny_pyNext_enum_item (he:IsEnum s.heap e it i f5) hit hl hx hne fun h' h1 h2 h3 h4 h5=>hQ h' s.toks ?_ h2 h3 h5
  exact ⟨_,_,_,h1,.inr ⟨s.heap.objs.size,_,rfl,h3,Nat.ne_of_gt hel,Nat.ne_of_gt hil⟩⟩
 ·have hT:s.TypeIs (.ref e) "enumerate":=⟨_,he,rfl⟩
  unfold pyNext
  refine wpAny_bind (wpAny_attempt (wpAny_callSpecial?_slot (name:=Str.ofString "__next__") hT F.slot_enumerate_next
   (wpAny_call_entry F.slot_enumerate_next hT F.entry_enumerate_next ?_ (F.args_enumerate_next_1 _))))
  obtain ⟨hp,g,d,tk,os⟩:=s
  show wpAny _ _ (field (.ref e) 2 >>= _) _ _ _
  refine wpAny_bind (wpAny_field he rfl (x:=.ref it) rfl ?_)
  refine wpAny_bind (wpAny_nextOf_list_item hit hl hx fun k1 i1 b1=>?_)
  replace b1:Heap.SameBut it hp k1:=b1
  have e1:=(b1.2 e hne).trans he
  show wpAny _ _ (field (.ref e) 3 >>= _) _ _ ⟨k1,g,d,tk,os⟩
  refine wpAny_bind (wpAny_field e1 rfl (x:=rawInt i) rfl ?_)
  show wpAny _ _ (field (.ref e) 4 >>= _) _ _ ⟨k1,g,d,tk,os⟩
  refine wpAny_bind (wpAny_field e1 rfl (x:=.none) rfl ?_)
  show wpAny _ _ (mkInt i >>= _) _ _ ⟨k1,g,d,tk,os⟩
  refine wpAny_bind (wpAny_mkInt ?_)
  show wpAny _ _ (setField (.ref e) 3 (rawInt ((i:Int)+1)) >>= _) _ _ ⟨k1,g,d,tk+1,os⟩
  refine wpAny_bind (wpAny_setField_rec e1 (by simp) fun k2 e2 b2=>?_)
  replace b2:Heap.SameBut e k1 k2:=b2
  show wpAny _ _ (setField (.ref e) 4 .none >>= _) _ _ ⟨k2,g,d,tk+1,os⟩
  refine wpAny_bind (wpAny_setField_rec e2 (by simp) fun k3 e3 b3=>?_)
  replace b3:Heap.SameBut e k2 k3:=b3
  replace e3:k3.get? e=some { cls:=.type "enumerate",dict:=none,data:=.fields #[rawInt (a:Int),f1,.ref it,rawInt ((i:Int)+1),.none,f5],slots:=#[] }:=by simpa using e3
  show wpAny _ _ (newTuple [.int i tk,x] >>= _) _ _ ⟨k3,g,d,tk+1,os⟩
  refine wpAny_bind (wpAny_newTuple ?_)
  have z3:k3.objs.size=hp.objs.size:=by rw [b3.1,b2.1,b1.1]
  have up3:∀b o,b≠e->b≠it->hp.get? b=some o->k3.get? b=some o:=fun b o q1 q2 q=>b3.extBut b o q1 (b2.extBut b o q1 (b1.extBut b o q2 q))
  have e4:(k3.push { cls:=.type "tuple",data:=.seq #[.int i tk,x] }).get? e=_:=Heap.get?_push_of_some _ e3
  have t4:(k3.push { cls:=.type "tuple",data:=.seq #[.int i tk,x] }).get? hp.objs.size=some { cls:=.type "tuple",data:=.seq #[.int i tk,x] }:=by rw [<-z3];exact Heap.get?_push_size _ rfl
  have i4:(k3.push { cls:=.type "tuple",data:=.seq #[.int i tk,x] }).IsListIter it l (i+1):=by
   obtain ⟨o,ho,r⟩:=(i1.extBut b2.extBut (Ne.symm hne)).extBut b3.extBut (Ne.symm hne)
   exact ⟨o,Heap.get?_push_of_some _ ho,r⟩
  have a4:(k3.push { cls:=.type "tuple",data:=.seq #[.int i tk,x] }).get? a=some oa:=Heap.get?_push_of_some _ (up3 a oa hae hai ha)
  have up4:∀b o,b≠e->b≠it->hp.get? b=some o->(k3.push { cls:=.type "tuple",data:=.seq #[.int i tk,x] }).get? b=some o:=fun b o q1 q2 q=>Heap.get?_push_of_some _ (up3 b o q1 q2 q)
  generalize k3.push { cls:=.type "tuple",data:=.seq #[.int i tk,x] }=k4 at e4 t4 i4 a4 up4
  show wpAny _ _ (Builtin.SmallTypes.ownedTupleIsFree (.ref e) >>= _) _ _ ⟨k4,g,d,tk+1,os⟩
  rw [z3]
  have hel':e<hp.objs.size:=hel
  have hil':it<hp.objs.size:=hil
  have fin:∀k5,(∃f1',k5.get? e=some { cls:=.type "enumerate",dict:=none,data:=.fields #[rawInt (a:Int),f1',.ref it,rawInt ((i:Int)+1),.none,f5],slots:=#[] })->(∀b o,b≠e->k4.get? b=some o->k5.get? b=some o)->
    Q (some (.ref hp.objs.size)) ⟨k5,g,d,tk+1,os⟩:=fun k5 ⟨f1',q⟩ up=>by
   refine hQ k5 tk ⟨_,_,_,q,.inr ⟨a,oa,rfl,up a oa hae a4,hae,hai⟩⟩ (i4.at fun o z=>up it o (Ne.symm hne) z) (up _ _ (Nat.ne_of_gt hel') t4) fun b o q1 q2 z=>up b o q1 (up4 b o q1 q2 z)
  unfold Builtin.SmallTypes.ownedTupleIsFree
  refine wpAny_bind ?_
  refine wpAny_bind (wpAny_field e4 rfl (x:=rawInt (a:Int)) rfl ?_)
  show wpAny _ _ (loadIfAlive (((a:Nat):Int)).toNat >>= _) _ _ _
  refine wpAny_bind (alive_any ?_)
  rw [Int.toNat_natCast,a4]
  simp only [Option.isNone_some,Bool.false_eq_true,if_false]
  refine wpAny_bind (wpAny_field e4 rfl (x:=f1) rfl ?_)
  by_cases hb:(f1 != Value.bool true)=true
  ·simp only [hb,if_true]
   refine wpAny_bind (wpAny_setField_rec e4 (by simp) fun k5 e5 b5=>?_)
   refine wpAny_pure ?_
   simp only [Bool.false_eq_true,if_false]
   exact wpAny_pure ⟨_,rfl,wpAny_pure (fin k5 ⟨_,by simpa using e5⟩ fun b o q z=>b5.extBut b o q z)⟩
  ·simp only [hb,if_false]
   refine wpAny_bind (wpAny_pure ?_)
   refine wpAny_pure ?_
   simp only [Bool.false_eq_true,if_false]
   exact wpAny_pure ⟨_,rfl,wpAny_pure (fin k4 ⟨_,e4⟩ fun b o q z=>z)⟩
end
theorem nb {a b n:Nat} (h:a<n) (h':n<=b):b≠a:=by omega
theorem en_no_len:typeLookup (.type "enumerate") "__len__"=pure none:=by rw [typeLookup_type,builtinLookup_eq_fast];kernel_rfl
theorem en_no_hint:typeLookup (.type "enumerate") "__length_hint__"=pure none:=by rw [typeLookup_type,builtinLookup_eq_fast];kernel_rfl
section
variable {prog:Program} {w:World} {A:Around} {E:Value->Shared->Prop} {s:Shared}
theorem en_end {e it l:Addr} {i:Nat} {items:Array Value} {Q:Option Value->Shared->Prop} (hh:A.handled=none)
  (he:EnS s.heap e it i) (hit:s.heap.IsListIter it l i) (hl:s.heap.IsList l items) (hx:items[i]? = none)
  (hQ:∀h',(∀b o,b≠it->s.heap.get? b=some o->h'.get? b=some o)->Q none { s with heap:=h' }):wpAny (model prog w) A (pyNext (.ref e)) Q E s:=by
 obtain ⟨f0,f1,f5,he,_⟩:=he
 have hT:s.TypeIs (.ref e) "enumerate":=⟨_,he,rfl⟩
 unfold pyNext
 refine wpAny_bind (wpAny_attempt (wpAny_callSpecial?_slot (name:=Str.ofString "__next__") hT F.slot_enumerate_next
  (wpAny_call_entry F.slot_enumerate_next hT F.entry_enumerate_next ?_ (F.args_enumerate_next_1 _))))
 show wpAny _ _ (field (.ref e) 2 >>= _) _ _ _
 refine wpAny_bind (wpAny_field he rfl (x:=.ref it) rfl ?_)
 refine wpAny_bind (wpAny_nextOf_list_end hh hit hl hx fun h' x he' hx'=>?_)
 obtain ⟨o,ho,hc⟩:=hx'
 refine wpAny_bind (wpAny_isInstance (T:="StopIteration") (b:=true) ⟨o,ho,hc⟩ isSubtype_stop ?_)
 exact wpAny_pure (hQ h' fun b o hb q=>he' b o hb q)
def Tups (h:Heap) (ts:List Addr) (items:Array Value) (n0:Nat):Prop:=
 ts.Nodup/\∀(j:Nat) (t:Addr),ts[j]? = some t->n0<=t/\∃tk x,items[j]? = some x/\h.get? t=some { cls:=.type "tuple",data:=.seq #[.int (j:Int) tk,x] }
theorem nodup_snoc {α:Type}:∀{l:List α} {x:α},l.Nodup->x ∉ l->(l++[x]).Nodup
 | [],_,_,_=>by simp
 | y::r,x,h,hx=>by
  rw [List.cons_append,List.nodup_cons]
  have h':=List.nodup_cons.mp h
  refine ⟨fun z=>?_,nodup_snoc h'.2 fun z=>hx (List.mem_cons_of_mem _ z)⟩
  rcases List.mem_append.mp z with z|z
  ·exact h'.1 z
  ·rw [List.mem_singleton] at z
   exact hx (by rw [z];exact List.mem_cons_self)
theorem en_extend {R:Result->Shared->Prop} {e it l S:Addr} {items:Array Value} {res:Value} {n0:Nat} (hh:A.handled=none) (hne:e≠it) (hSe:S≠e) (hSi:S≠it) (hle:l≠e) (hli:l≠it) (hlS:l≠S)
  (hle0:e<n0) (hli0:it<n0) (hS0:S<n0) (hsz:items.size<=sizeLine) :
  ∀(k i:Nat) (s:Shared) (ts:List Addr) (c:Nat),items.size - i=k->i<=items.size->EnS s.heap e it i->s.heap.IsListIter it l i->s.heap.IsList l items->ts.length=i->Tups s.heap ts items n0->n0<=s.heap.objs.size->
   s.heap.get? S=some { cls:=.type "list",dict:=none,data:=.seq (ts.map Value.ref).toArray c,slots:=#[] }->
   (∀h' tk ts' c',(∀b o,b≠e->b≠it->b≠S->s.heap.get? b=some o->h'.get? b=some o)->ts'.length=items.size->Tups h' ts' items n0->
    h'.get? S=some { cls:=.type "list",dict:=none,data:=.seq (ts'.map Value.ref).toArray c',slots:=#[] }->R (.ok (.ret res)) { s with heap:=h',toks:=tk })->
   codeAny (model prog w) A (.builtin "list.extend.loop" ⟨[.ref S,.ref e,res],[]⟩) R s:=by
 intro k
 induction k with
 | zero=>
  intro i s ts c hk hi he hit hl hts hT hn hS hR
  have hin:i=items.size:=by omega
  refine codeAny_builtin F.entry_extend_loop ?_
  rw [Around.under_plainId F.plain_extend_loop _]
  show wpAny _ A.in1 (pyNext (.ref e) >>= _) _ _ s
  refine wpAny_bind (en_end (A:=A.in1) hh he hit hl (by simp [hin]) fun h' up=>?_)
  refine wpAny_pure (hR h' s.toks ts c (fun b o _ q _ z=>up b o q z) (hts.trans hin) ⟨hT.1,fun j t q=>?_⟩ (up S _ hSi hS))
  obtain ⟨q1,tk,x,q2,q3⟩:=hT.2 j t q
  exact ⟨q1,tk,x,q2,up t _ (nb hli0 q1) q3⟩
 | succ k ih=>
  intro i s ts c hk hi he hit hl hts hT hn hS hR
  have hlt:i<items.size:=by omega
  refine codeAny_builtin F.entry_extend_loop ?_
  rw [Around.under_plainId F.plain_extend_loop _]
  show wpAny _ A.in1 (pyNext (.ref e) >>= _) _ _ s
  refine wpAny_bind (en_next (A:=A.in1) he hit hl (x:=items[i]) (by simp [hlt]) hne fun h' tk e1 i1 t1 up=>?_)
  have S1:=up S _ hSe hSi hS
  have fresh:s.heap.objs.size ∉ ts:=fun z=>by
   obtain ⟨j,q⟩:=List.getElem?_of_mem z
   obtain ⟨_,_,_,_,q3⟩:=hT.2 j _ q
   exact absurd (Heap.lt_size q3) (Nat.lt_irrefl _)
  have hn1:n0<=h'.objs.size:=Nat.le_trans hn (Nat.le_of_lt (Heap.lt_size t1))
  show wpAny _ A.in1 (updateSeq S (·.push (.ref s.heap.objs.size)) >>= _) _ _ _
  have sz1:(ts.map Value.ref).toArray.size=i:=by simp [hts]
  refine wpAny_bind (wpAny_updateSeq S1 rfl (wpAny_pure ⟨plainId_quiet F.plain_extend_loop _,?_⟩) (by rw [sz1];omega) (by show ((ts.map Value.ref).toArray.push _).size<=sizeLine+1;rw [Array.size_push,sz1];omega))
  have up2:∀b o,b≠S->h'.get? b=some o->(h'.update S (Obj.mapSeq (·.push (Value.ref s.heap.objs.size)))).get? b=some o:=fun b o q z=>(Heap.get?_update_other _ _ (Ne.symm q)).trans z
  have S2:=Heap.get?_update_self (Obj.mapSeq (·.push (Value.ref s.heap.objs.size))) S1 rfl
  have ea:(ts.map Value.ref).toArray.push (Value.ref s.heap.objs.size)=((ts++[s.heap.objs.size]).map Value.ref).toArray:=by simp
  have S3:∃c',(h'.update S (Obj.mapSeq (·.push (Value.ref s.heap.objs.size)))).get? S=some { cls:=.type "list",dict:=none,data:=.seq ((ts++[s.heap.objs.size]).map Value.ref).toArray c',slots:=#[] }:=by
   rw [<-ea];exact ⟨_,S2⟩
  obtain ⟨c',S3⟩:=S3
  have T2:Tups (h'.update S (Obj.mapSeq (·.push (Value.ref s.heap.objs.size)))) (ts++[s.heap.objs.size]) items n0:=by
   refine ⟨nodup_snoc hT.1 fresh,fun j t q=>?_⟩
   by_cases hj:j<ts.length
   ·rw [List.getElem?_append_left hj] at q
    obtain ⟨q1,tk',x,q2,q3⟩:=hT.2 j t q
    exact ⟨q1,tk',x,q2,up2 t _ (nb hS0 q1) (up t _ (nb hle0 q1) (nb hli0 q1) q3)⟩
   ·rw [List.getElem?_append_right (by omega)] at q
    have hj':j=i:=by
     rcases Nat.lt_or_ge (j - ts.length) 1 with z|z
     ·omega
     ·rw [List.getElem?_eq_none (by simp;omega)] at q;cases q
    subst hj'
    have:t=s.heap.objs.size:=by
     rw [hts,Nat.sub_self] at q
     simpa using q.symm
    subst this
    exact ⟨hn,tk,items[j],by simp [hlt],up2 _ _ (nb hS0 hn) t1⟩
  have E2:EnS (h'.update S (Obj.mapSeq (·.push (Value.ref s.heap.objs.size)))) e it (i+1):=by
   obtain ⟨f0,f1,f5,q,z⟩:=e1
   refine ⟨f0,f1,f5,up2 e _ (Ne.symm hSe) q,?_⟩
   rcases z with z|⟨a,o,z1,z2,z3,z4⟩
   ·exact .inl z
   ·by_cases ha:a=S
    ·subst ha;exact .inr ⟨a,_,z1,S3,z3,z4⟩
    ·exact .inr ⟨a,o,z1,up2 a o ha z2,z3,z4⟩
  refine ih (i+1) _ (ts++[s.heap.objs.size]) c' (by omega) hlt E2 (i1.at fun o z=>up2 it o (Ne.symm hSi) z) ((hl.at fun o z=>up l o hle hli z).at fun o z=>up2 l o hlS z) (by simp [hts]) T2 ?_ S3 fun h2 tk2 ts2 c2 up3 q1 q2 q3=>?_
  ·show n0<=(h'.update S _).objs.size
   rw [Heap.size_update];exact hn1
  ·exact hR h2 tk2 ts2 c2 (fun b o z1 z2 z3 z=>up3 b o z1 z2 z3 (up2 b o z3 (up b o z1 z2 z))) q1 q2 q3
theorem call_list_enum {Q : Value → Shared → Prop} {e it l : Addr} {items : Array Value} (hh : A.handled = none) (he : IsEnum s.heap e it 0 .none) (hit : s.heap.IsListIter it l 0) (hl : s.heap.IsList l items) (hne : e ≠ it) (hle : l ≠ e) (hli : l ≠ it) (hsz : items.size ≤ sizeLine)
    (hQ : ∀ h' tk ts c, (∀ b o, b ≠ e → b ≠ it → s.heap.get? b = some o → h'.get? b = some o) → ts.length = items.size → Tups h' ts items (s.heap.objs.size + 1) →
      h'.get? s.heap.objs.size = some { cls := .type "list", dict := none, data := .seq (ts.map Value.ref).toArray c, slots := #[] } → Q (.ref s.heap.objs.size) { s with heap := h', toks := tk }) :
    wpAny (model prog w) A (call (.type "list") [.ref e]) Q E s := by
  have el : e < s.heap.objs.size := Heap.lt_size he
  have il : it < s.heap.objs.size := by obtain ⟨o, ho, _⟩ := hit; exact Heap.lt_size ho
  have ll : l < s.heap.objs.size := by obtain ⟨o, ho, _⟩ := hl; exact Heap.lt_size ho
  refine callType_codes (Q₁ := fun obj s1 => obj = .ref s.heap.objs.size ∧ s1 = { s with heap := s.heap.push { cls := .type "list", data := .seq #[] } }) F.called_list (F.typeCall_list_1 _) F.entry_list_init
    (code_list_new _ ⟨rfl, rfl⟩) fun obj s1 h1 => ?_
  obtain ⟨rfl, rfl⟩ := h1
  have hS : (s.heap.push { cls := .type "list", data := .seq #[] }).get? s.heap.objs.size = some { cls := .type "list", data := .seq #[] } := Heap.get?_push_size _ rfl
  have up0 : ∀ b o, s.heap.get? b = some o → (s.heap.push { cls := .type "list", data := .seq #[] }).get? b = some o := fun b o z => Heap.get?_push_of_some _ z
  have sz0 : (s.heap.push { cls := .type "list", data := .seq #[] }).objs.size = s.heap.objs.size + 1 := Heap.size_push ..
  refine ⟨⟨_, hS, rfl⟩, F.args_list_init_2 _ _, ?_⟩
  generalize s.heap.push { cls := .type "list", data := .seq #[] } = k0 at hS up0 sz0
  generalize hSS : s.heap.objs.size = S at *
  show wpAny _ _ (do let old ← Builtin.List.listItems (.ref S); Builtin.List.listUpdate (.ref S) (fun _ => #[]); letGo old.toList.reverse; Builtin.List.listExtendWith (.ref S) (.ref e) .none) _ _ _
  refine wpAny_bind ?_
  unfold Builtin.List.listItems
  refine wpAny_bind (wpAny_seqItems hS rfl (wpAny_pure ?_))
  show wpAny _ _ (updateSeq S (fun _ => #[]) >>= fun _ => letGo (#[] : Array Value).toList.reverse >>= fun _ => Builtin.List.listExtendWith (.ref S) (.ref e) .none) _ _ _
  refine wpAny_bind (wpAny_updateSeq hS rfl ?_)
  refine wpAny_bind (wpAny_letGo ?_)
  have S1 := Heap.get?_update_self (Obj.mapSeq (fun _ => (#[] : Array Value))) hS rfl
  have up1 : ∀ b o, s.heap.get? b = some o → (k0.update S (Obj.mapSeq (fun _ => (#[] : Array Value)))).get? b = some o :=
    fun b o z => (Heap.get?_update_other _ _ (fun q : S = b => by subst q; exact absurd (Heap.lt_size z) (by rw [hSS]; exact Nat.lt_irrefl _))).trans (up0 b o z)
  have sz1 : (k0.update S (Obj.mapSeq (fun _ => (#[] : Array Value)))).objs.size = S + 1 := by rw [Heap.size_update, sz0]
  generalize k0.update S (Obj.mapSeq (fun _ => (#[] : Array Value))) = k1 at S1 up1 sz1
  have e1 : IsEnum k1 e it 0 .none := up1 e _ he
  have hT : Shared.TypeIs { s with heap := k1 } (.ref e) "enumerate" := ⟨_, e1, rfl⟩
  unfold Builtin.List.listExtendWith
  refine wpAny_bind (wpAny_typeOf hT ?_)
  have g1 : Builtin.List.listSameRef (.ref S) (.ref e) = false := by simp [Builtin.List.listSameRef]; exact nb el (Nat.le_refl _)
  have g2 : (Value.type "enumerate" == Value.type "list") = false := by decide
  have g3 : (Value.type "enumerate" == Value.type "tuple") = false := by decide
  simp only [g1, g2, g3, Bool.or_false, Bool.false_eq_true, if_false]
  refine wpAny_bind (wpAny_pyIter_enum e1 ?_)
  refine wpAny_bind (wpAny_holding ?_)
  unfold Builtin.List.listLengthHint
  refine wpAny_bind (wpAny_specialOf hT en_no_len ?_)
  show wpAny _ _ (specialOf (Value.ref e) (Str.ofString "__length_hint__") >>= _) _ _ _
  refine wpAny_bind (wpAny_specialOf hT en_no_hint ?_)
  refine wpAny_pure ?_
  show wpAny _ _ (rule "list.extend.makes-room" >>= fun _ => Builtin.List.listTouch (.ref S) >>= fun _ => again (.builtin "list.extend.loop" ⟨[.ref S, .ref e, .none], []⟩)) _ _ _
  refine wpAny_bind (wpAny_rule ?_)
  refine wpAny_bind ?_
  show wpAny _ _ (updateSeq S (·.push .none) >>= fun _ => updateSeq S (·.pop)) _ _ _
  refine wpAny_bind (wpAny_updateSeq S1 rfl ?_)
  have S2 := Heap.get?_update_self (Obj.mapSeq (·.push Value.none)) S1 rfl
  refine wpAny_updateSeq (hz := by seq_fits) S2 rfl ?_
  have S3 := Heap.get?_update_self (Obj.mapSeq (·.pop)) S2 rfl
  have up3 : ∀ b o, s.heap.get? b = some o → ((k1.update S (Obj.mapSeq (·.push Value.none))).update S (Obj.mapSeq (·.pop))).get? b = some o :=
    fun b o z => by
      have hb : S ≠ b := fun q => by subst q; exact absurd (Heap.lt_size z) (by rw [hSS]; exact Nat.lt_irrefl _)
      exact (Heap.get?_update_other _ _ hb).trans ((Heap.get?_update_other _ _ hb).trans (up1 b o z))
  have sz3 : ((k1.update S (Obj.mapSeq (·.push Value.none))).update S (Obj.mapSeq (·.pop))).objs.size = S + 1 := by rw [Heap.size_update, Heap.size_update, sz1]
  have S3' : ∃ c, ((k1.update S (Obj.mapSeq (·.push Value.none))).update S (Obj.mapSeq (·.pop))).get? S = some { cls := .type "list", dict := none, data := .seq (([] : List Addr).map Value.ref).toArray c, slots := #[] } := ⟨_, S3⟩
  obtain ⟨c, S4⟩ := S3'
  refine wpAny_pure ⟨plainId_quiet F.plain_extend_loop _, ?_⟩
  clear S3
  generalize (k1.update S (Obj.mapSeq (·.push Value.none))).update S (Obj.mapSeq (·.pop)) = k3 at up3 sz3 S4 ⊢
  show codeAny _ _ _ _ { s with heap := k3 }
  refine en_extend (A := A.in1) (n0 := S + 1) hh hne (nb el (Nat.le_refl _)) (nb il (Nat.le_refl _)) hle hli (Ne.symm (nb ll (Nat.le_refl _))) (Nat.lt_succ_of_lt el) (Nat.lt_succ_of_lt il) (Nat.lt_succ_self _) hsz items.size 0 { s with heap := k3 } [] c (by simp) (Nat.zero_le _)
    ⟨_, _, _, up3 e _ he, .inl ⟨rfl, rfl⟩⟩ (hit.at fun o z => up3 it o z) (hl.at fun o z => up3 l o z) rfl ⟨List.nodup_nil, fun j t q => by simp at q⟩ (Nat.le_of_eq sz3.symm) S4 fun h' tk ts c' u1 u2 u3 u4 => ?_
  exact ⟨rfl, hQ h' tk ts c' (fun b o z1 z2 z => u1 b o z1 z2 (fun q => by subst q; exact absurd (Heap.lt_size z) (by rw [hSS]; exact Nat.lt_irrefl _)) (up3 b o z)) u2 u3 u4⟩
end
section
variable {X:Cx} {pins:List (Addr × Obj)} {σ:St} {H H':Hp} {s:Shared} {h':Heap}
theorem Inv.ext {t':Nat} (I:Inv X pins σ H s) (k:∀b u,s.heap.get? b=some u->h'.get? b=some u) (hH:∀b,b<s.heap.objs.size->H' b=H b) (hok:HOk X.prog X.w H' h') :
  Inv X pins σ H' { s with heap:=h',toks:=t' }:=by
 refine I.un ⟨fun b o q _ _ _=>k b o q,fun b o q _ _ _=>⟨o.slots,k b o q⟩,fun b o q n _=>(hH b (Heap.lt_size q)).trans n,fun b o q _=>⟨o,k b o q⟩,fun b xs q=>(hH b (I.hok.lt q)).trans q,fun b o u q=>(hH b (I.hok.lt q)).trans q,fun b ps q=>⟨#[],?_⟩⟩ hok
 rw [hH b (I.hok.lt q),q];simp
theorem vals_intsAre:∀{ns:List Int} {us:List Value},Vals (ns.map V.int) us->IntsAre us ns
 | [],_,.nil=>.nil
 | n::r,_,.cons h t=>by
  obtain ⟨tk,rfl⟩:=h
  exact .cons n tk (vals_intsAre t)
def rEqL (K:PySem.W.Frag):R2:=fun x y H Q=>∃(a b:Addr) (ns ms:List Int),x=.ref a/\y=.ref b/\SqL K H a (ns.map V.int)/\SqL K H b (ms.map V.int)/\Q (.bl (decide (ns=ms))) H
def rNeL (K:PySem.W.Frag):R2:=fun x y H Q=>∃(a b:Addr) (ns ms:List Int),x=.ref a/\y=.ref b/\SqL K H a (ns.map V.int)/\SqL K H b (ms.map V.int)/\Q (.bl (!decide (ns=ms))) H
theorem op_eqL (hu:X.A.units+64<cLine):OpR X (compareOp .Eq) (rEqL X.K):=by
 intro pins s σ H x y v u Q I rx ry h
 obtain ⟨a,b,ns,ms,rfl,rfl,h1,h2,q⟩:=h
 cases rx
 cases ry
 obtain ⟨i1,r1,p1,_⟩:=I.list h1
 obtain ⟨i2,r2,p2,_⟩:=I.list h2
 exact PySem.W.eq_intsK p1.isList (vals_intsAre r1) p2.isList (vals_intsAre r2) hu ⟨.bl _,H,I,rfl,q⟩
theorem op_neL (hu:X.A.units+64<cLine):OpR X (compareOp .NotEq) (rNeL X.K):=by
 intro pins s σ H x y v u Q I rx ry h
 obtain ⟨a,b,ns,ms,rfl,rfl,h1,h2,q⟩:=h
 cases rx
 cases ry
 obtain ⟨i1,r1,p1,_⟩:=I.list h1
 obtain ⟨i2,r2,p2,_⟩:=I.list h2
 exact PySem.W.ne_intsK p1.isList (vals_intsAre r1) p2.isList (vals_intsAre r2) hu ⟨.bl _,H,I,rfl,q⟩
theorem vals_rev {xs:List V} {us:List Value} (r:Vals xs us):Vals xs.reverse us.reverse:=by
 induction r with
 | nil=>exact .nil
 | cons h t ih=>
  rw [List.reverse_cons,List.reverse_cons]
  exact ih.append (.cons h .nil)
def tRev (K:PySem.W.Frag) (te:TE):TE:=fun σ H Q=>te σ H fun x H1=>∃(a:Addr) (xs:List V),x=.ref a/\SqL K H1 a xs/\∀p,H1 p=none->Q (.ref p) (upd H1 p (.lst xs.reverse))
theorem pe_rev {e:Expr} {te:TE} {pos p1 p2 p3:Pos} {j} (he:PE X e te):PE X (.Subscript e (.Slice none none (some (.UnaryOp .USub (.Constant (.int 1) j p1) p2)) p3) pos) (tRev X.K te):=by
 intro pins s σ H Q I h
 refine Subscript_ (thn (he pins s σ H _ I h) fun v s1 ⟨x,H1,I1,r1,q1⟩=>?_)
 obtain ⟨a,xs,rfl,hq,q⟩:=q1
 cases r1
 refine wpAny_Slice ?_
 rw [evalPart_none]
 refine wpAny_pure ?_
 refine wpAny_pure ?_
 rw [evalPart_some]
 refine thn ((pe_un un_neg pe_int:PE X _ _) pins s1 σ H1 (fun y H2=>y=.int (-1)/\H2=H1) I1 ⟨1,rfl,rfl,rfl⟩) fun w s2 ⟨y,H2,I2,r2,q2⟩=>?_
 obtain ⟨rfl,rfl⟩:=q2
 obtain ⟨tk,rfl⟩:=r2
 have I3:Inv X pins σ H2 { s2 with heap:=s2.heap.push { cls:=.type "slice",data:=.fields #[.none,.none,.int (-1) tk] } }:=I2.kept (t':=s2.toks) fun b ob q=>Heap.get?_push_of_some _ q
 obtain ⟨its,rv,pl,hz⟩:=I3.list hq
 show wpAny (model X.prog X.w) X.A (subscriptTail e (.Slice none none (some (.UnaryOp .USub (.Constant (.int 1) j p1) p2)) p3) (.ref a) (.ref s2.heap.objs.size)) (EP X pins σ Q) X.xe { s2 with heap:=s2.heap.push { cls:=.type "slice",data:=.fields #[.none,.none,.int (-1) tk] } }
 refine tail_any (ops:=[.ref a,.ref s2.heap.objs.size]) pl.isList.typeIs slot_list_getitem.lookup ?_ (by with_unfolding_all rfl)
 have hl:=rv.length
 refine wpAny_getItem_list_slice pl.isList (Heap.IsSliceOf.new ..) .none .none (.int (-1) tk) (by simp) ?_ (by rw [List.size_toArray]<;>omega)
 rw [PySem.W.krv_pick]
 refine ⟨.ref _,_,I3.laid (t':=s2.toks) (o:=.lst xs.reverse) (fun b ob q=>Heap.get?_push_of_some _ q) (Nat.le_refl _) ?_,rfl,q _ (I3.hok.fresh (Nat.le_refl _))⟩
 exact ⟨by rw [List.length_reverse];exact hz,its.reverse,0,vals_rev rv,Heap.get?_push_size _ rfl⟩
def CDivB (i j:Int):Prop:=0<j/\j.natAbs.log2<9000
theorem op_fdivB:OpR X (binaryOp .FloorDiv) (rI CDivB fun i j=>.int (i / j)):=opI fun i j _ _ _ _ _ hc q=>by
 have h1:(0:Int)<j:=hc.1
 refine floordiv_int (by omega) ?_ (.inl (PyProof.noPylong_of_log2 hc.2))
 rw [Int.fdiv_eq_ediv_of_nonneg _ (by omega)]
 exact q
def tListEnum (K:PySem.W.Frag) (tl:TE):TE:=fun σ H Q=>tl σ H fun x H1=>∃(a:Addr) (xs:List V),x=.ref a/\SqL K H1 a xs /\
 ∀(r:Addr) (ts:List Addr) (H2:Hp),H1 r=none->(∀t∈ts,H1 t=none/\t≠r)->ts.length=xs.length->(∀b o,H1 b=some o->H2 b=some o)->H2 r=some (.lst (ts.map V.ref))->(∀(j:Nat) (t:Addr) (y:V),ts[j]? = some t->xs[j]? = some y->H2 t=some (.tup [.int (j:Int),y]))->Q (.ref r) H2
def enHp (H:Hp) (S:Addr) (ts:List Addr) (xs:List V):Hp:=fun b=>if b=S then some (.lst (ts.map V.ref)) else match ts.findIdx? (· == b) with
 | some j=>some (.tup [.int (j:Int),(xs[j]?).getD .non])
 | none=>H b
theorem find_at {ts:List Addr} (nd:ts.Nodup) {j:Nat} {t:Addr} (h:ts[j]? = some t):ts.findIdx? (· == t)=some j:=by
 obtain ⟨hj,e⟩:=List.getElem?_eq_some_iff.mp h
 rw [List.findIdx?_eq_some_iff_getElem]
 refine ⟨hj,by simp [e],fun i hi=>?_⟩
 have hi':i<ts.length:=by omega
 intro z
 have z':ts[i]=t:=by simpa using z
 have:=(List.getElem_inj nd).mp (z'.trans e.symm)
 omega
theorem find_some {ts:List Addr} {j:Nat} {b:Addr} (h:ts.findIdx? (· == b)=some j):ts[j]? = some b:=by
 rw [List.findIdx?_eq_some_iff_getElem] at h
 obtain ⟨hj,e,_⟩:=h
 rw [List.getElem?_eq_getElem hj]
 simpa using e
theorem vals_refs:∀(ts:List Addr),Vals (ts.map V.ref) (ts.map Value.ref)
 | []=>.nil
 | _::r=>.cons rfl (vals_refs r)
theorem pe_listEnum {l:Expr} {tl:TE} {p1 p2 pos pos2:Pos} (hc:X.calm=true) (hl:PE X l tl) (hg:Gl X "list") (hm:X.mg "list"=none) (hg2:Gl X "enumerate") (hm2:X.mg "enumerate"=none)
  (hs:starEach [l] X.env=[(false,eval l X.env)]:=by rfl) :
  PE X (.Call (.Name "list" p1) [.Call (.Name "enumerate" p2) [l] [] pos2] [] pos) (tListEnum X.K tl):=by
 intro pins s σ H Q I h
 refine Call_ (ld_blt (u:=.type "list") I hg hm (by kernel_rfl) (PyProof.Rows.callWith_type1 ?_ rfl rfl))
 refine Calls.spliced_cons ?_
 refine Call_ (ld_blt (u:=.type "enumerate") I hg2 hm2 (by kernel_rfl) (PyProof.Rows.callWith_type1 ?_ hs rfl))
 rw [hs]
 refine Calls.spliced_cons (thn (hl pins s σ H _ I h) fun v s1 ⟨x,H1,I1,r1,q1⟩=>?_)
 refine Calls.spliced_nil ?_
 obtain ⟨a,xs,rfl,hq,q⟩:=q1
 cases r1
 obtain ⟨its,rv,pl,hz⟩:=I1.list hq
 have hlen:=rv.length
 have hLs:=pl.isList
 refine call_enumerate_list hLs fun h1 e1 i1 z1 up1=>?_
 refine Calls.spliced_nil ?_
 have al:a<s1.heap.objs.size:=by obtain ⟨o,e,_⟩:=hLs;exact Heap.lt_size e
 refine call_list_enum (s:={ s1 with heap:=h1 }) (I1.ok.hd hc) e1 i1 (hLs.at fun o z=>up1 a o z) (Nat.succ_ne_self _) (Nat.ne_of_lt (Nat.lt_succ_of_lt al)) (Nat.ne_of_lt al) (by rw [List.size_toArray,<-hlen];exact hz) fun h2 tk ts c up2 tl2 T2 S2=>?_
 have hz1:h1.objs.size=s1.heap.objs.size+2:=z1
 have S2':h2.get? h1.objs.size=some { cls:=.type "list",dict:=none,data:=.seq (ts.map Value.ref).toArray c,slots:=#[] }:=S2
 have T2':Tups h2 ts its.toArray (h1.objs.size+1):=T2
 have up:∀b o,s1.heap.get? b=some o->h2.get? b=some o:=fun b o z=>by
  have hb:=Heap.lt_size z
  exact up2 b o (Nat.ne_of_lt (Nat.lt_succ_of_lt hb)) (Nat.ne_of_lt hb) (up1 b o z)
 have tsl:ts.length=xs.length:=by rw [hlen,tl2,List.size_toArray]
 have big:∀t∈ts,h1.objs.size+1<=t:=fun t ht=>by
  obtain ⟨j,e⟩:=List.getElem?_of_mem ht
  exact (T2'.2 j t e).1
 have fnone:∀b,b<=h1.objs.size->ts.findIdx? (· == b)=none:=fun b hb=>by
  rw [List.findIdx?_eq_none_iff]
  intro t ht
  have h3:=big t ht
  have h4:t≠b:=Nat.ne_of_gt (by omega)
  simpa using h4
 have old:∀b,b<s1.heap.objs.size->enHp H1 h1.objs.size ts xs b=H1 b:=fun b hb=>by
  unfold enHp
  rw [if_neg (Nat.ne_of_lt (by omega)),fnone b (by omega)]
 have fr:∀b,s1.heap.objs.size<=b->H1 b=none:=fun b hb=>I1.hok.fresh hb
 have okH:HOk X.prog X.w (enHp H1 h1.objs.size ts xs) h2:=by
  intro b o e
  unfold enHp at e
  by_cases hb:b=h1.objs.size
  ·rw [if_pos hb] at e
   cases e
   subst hb
   exact ⟨by rw [List.length_map,tsl];exact hz,ts.map Value.ref,c,vals_refs ts,S2'⟩
  ·rw [if_neg hb] at e
   cases hf:ts.findIdx? (· == b) with
   | some j=>
    rw [hf] at e
    cases e
    have hj:=find_some hf
    obtain ⟨_,tk',x',hx',ho'⟩:=T2'.2 j b hj
    have hj':j<xs.length:=by rw [<-tsl];exact (List.getElem?_eq_some_iff.mp hj).1
    obtain ⟨u,hu,ru⟩:=rv.get (List.getElem?_eq_getElem hj')
    have eu:u=x':=by
     have:its[j]? = some x':=by simpa using hx'
     rw [hu] at this;exact Option.some.inj this
    subst eu
    rw [List.getElem?_eq_getElem hj',Option.getD_some]
    exact ⟨by show 2<=sizeLine;decide,[.int (j:Int) tk',u],.cons ⟨tk',rfl⟩ (.cons ru .nil),⟨_,ho',rfl,_,rfl⟩⟩
   | none=>
    rw [hf] at e
    have hlt:=I1.hok.lt e
    refine (I1.hok b o e).stay (fun c' u _ z=>up c' u z) (fun c' z=>?_) fun c' ys z=>?_
    ·exact (old c' (I1.hok.lt z)).trans z
    ·exact (old c' (I1.hok.lt z)).trans z
 refine ⟨.ref h1.objs.size,enHp H1 h1.objs.size ts xs,I1.ext (t':=tk) up old okH,rfl,q _ ts _ (fr _ (by omega)) (fun t ht=>⟨fr t (Nat.le_trans (by omega) (big t ht)),Nat.ne_of_gt (by have:=big t ht;omega)⟩) tsl (fun b o z=>(old b (I1.hok.lt z)).trans z) ?_ fun j t y hj hy=>?_⟩
 ·unfold enHp;rw [if_pos rfl]
 ·unfold enHp
  have h3:=(T2'.2 j t hj).1
  rw [if_neg (Nat.ne_of_gt (by omega)),find_at T2'.1 hj]
  dsimp only
  rw [hy,Option.getD_some]
end
structure DefAt (K:PySem.W.Frag) (mg:Str->Option Value) (x:Str) (st:Stmt) (ps:List Str) where
 f:Addr
 fd:FuncData
 F:Fun K x x st f fd
 m:mg x=some (.ref f)
 b:Binds K fd ps []
theorem pe_callD {X:Cx} {x:Str} {st:Stmt} {ps:List Str} {k:Nat} {sp:Sp} {e:Expr} {es:List Expr} {p pos:Pos} {t:TA} (D:DefAt X.K X.mg x st ps) (G:FnOk X.prog X.w X.K X.mg X.base CX0 k D.f D.fd ps sp) (hr:Room k X.A) (ha:PA X (e::es) t)
  (hg:Gl X x:=by rfl) (hdb:(x == ("__debug__":Str))=false:=by decide) (he:starEach (e::es) X.env=(false,eval e X.env)::starEach es X.env:=by rfl) (hpl:(backTo pos (starEach es X.env)).any (·.1)=false:=by rfl) :
  PE X (.Call (.Name x p) (e::es) [] pos) (tCall sp [] E0 t):=
 pe_call G hr hg D.m D.F.kp D.b .nil pass0 ha hdb he hpl
structure CompSc (osc:Scope) (oN:List Str) (scope:Scope) (N:List Str) (k:Nat):Prop where
 kind:scope.kind=.function
 nocell:∀y∈scope.names,y.2≠.cell
 nd:N.Nodup
 len:N.length=k+oN.length
 loc:∀x∈scope.names,x.2=.local->scope.names.lookup x.1=some .local
 free:∀x∈scope.names,x.2=.free->osc.names.lookup x.1=some .cell\/osc.names.lookup x.1=some .free
 own:∀x∈N.take k,scope.names.lookup x=some .local
 out:∀p∈(N.drop k).zip oN,(scope.names.lookup p.1).isSome=true->p.1=p.2/\scope.names.lookup p.1=some .free\/scope.names.lookup p.1=some .globalImplicit
theorem CompScope.of {X:Cx} {scope:Scope} {N:List Str} {k:Nat} (S:CompSc X.env.scope X.N scope N k):CompScope X scope N k where
 kind:=S.kind
 nocell:=S.nocell
 nd:=S.nd
 len:=S.len
 loc:=S.loc
 free:=S.free
 own:=fun i x hi e=>S.own x (by
  have:(N.take k)[i]? = some x:=by rw [List.getElem?_take_of_lt hi];exact e
  exact List.mem_of_getElem? this)
 out:=fun i x e hs=>by
  have hl:=S.len
  have hi:k+i<N.length:=(List.getElem?_eq_some_iff.mp e).1
  have hi':i<X.N.length:=by omega
  have e1:(N.drop k)[i]? = some x:=by rw [List.getElem?_drop];exact e
  have e2:X.N[i]? = some X.N[i]:=List.getElem?_eq_getElem hi'
  have e3:((N.drop k).zip X.N)[i]? = some (x,X.N[i]):=by
   rw [List.getElem?_zip_eq_some]
   exact ⟨e1,e2⟩
  rcases S.out _ (List.mem_of_getElem? e3) hs with ⟨z1,z2⟩|z
  ·exact .inl ⟨by rw [e2];exact congrArg some z1.symm,z2⟩
  ·exact .inr z
theorem same_upd {H:Hp} {p:Addr} (h:H p=none) (o:HO):Same H (upd H p o):=fun b u q=>by rw [upd_ne (ne_of_none q h)];exact q
section
variable {X:Cx} {K:PySem.W.Frag}
theorem ix_listK (h:X.K=K):IxR X (rIxL K):=by subst h;exact ix_list
theorem sl_listK (h:X.K=K):SlR X (rSlL K):=by subst h;exact sl_list
theorem op_eqLK (h:X.K=K) (hu:X.A.units+64<cLine):OpR X (compareOp .Eq) (rEqL K):=by subst h;exact op_eqL hu
theorem op_neLK (h:X.K=K) (hu:X.A.units+64<cLine):OpR X (compareOp .NotEq) (rNeL K):=by subst h;exact op_neL hu
def rLen (K:PySem.W.Frag):List V->Hp->VK->Prop:=fun xs H Q=>∃p ys,xs=[.ref p]/\(SqL K H p ys\/SqT K H p ys)/\Q (.int ys.length) H
theorem call_lenK (h:X.K=K):CallR X (.builtin "len") (rLen K):=by subst h;exact call_len_seq
def rLstOf (K:PySem.W.Frag):List V->Hp->VK->Prop:=fun xs H Q=>∃p ys,xs=[.ref p]/\(SqL K H p ys\/SqT K H p ys)/\∀l,H l=none->Q (.ref l) (upd H l (.lst ys))
theorem call_listK (h:X.K=K):CallR X (.type "list") (rLstOf K):=by subst h;exact call_list_of
theorem pi_listK {tg l:Expr} {tl:TE} (h:X.K=K) (hl:PE X l tl):PI X tg l (iList K tl):=by subst h;exact pi_list hl
theorem pg_tupK {es:List Expr} {k:Nat} {t:TGs} {n:Nat} {pos:Pos} (hK:X.K=K) (hc:X.calm=true) (h:PGs X es t) (hn:(assignEach es X.env).length=n:=by rfl) (hst:(assignEach es X.env).findIdx? (·.1)=none:=by rfl):PG X (.Tuple es k pos) (gTup K n t):=by
 subst hK;exact pg_tup hc h hn hst
theorem pe_revK {e:Expr} {te:TE} {pos p1 p2 p3:Pos} {j} (h:X.K=K) (he:PE X e te):PE X (.Subscript e (.Slice none none (some (.UnaryOp .USub (.Constant (.int 1) j p1) p2)) p3) pos) (tRev K te):=by subst h;exact pe_rev he
theorem pe_listEnumK {l:Expr} {tl:TE} {p1 p2 pos pos2:Pos} (h:X.K=K) (hc:X.calm=true) (hl:PE X l tl) (hg:Gl X "list") (hm:X.mg "list"=none) (hg2:Gl X "enumerate") (hm2:X.mg "enumerate"=none)
  (hs:starEach [l] X.env=[(false,eval l X.env)]:=by rfl):PE X (.Call (.Name "list" p1) [.Call (.Name "enumerate" p2) [l] [] pos2] [] pos) (tListEnum K tl):=by subst h;exact pe_listEnum hc hl hg hm hg2 hm2 hs
end
theorem ps_setComp {X:Cx} {scope:Scope} {N:List Str} {k:Nat} {i:Nat} {x:Str} {elt iter tg:Expr} {ifs:List Expr} {pos pos' pos2:Pos} {wi:TI} {g:TG} {tt:TT} {te:TE} (hN:X.N.Nodup) (hi':X.N[i]? = some x) (hx:Loc X.env.scope x)
  (S:CompScope X scope N k) (hc:X.calm=true) (hi:PI X tg iter wi)
  (hg:∀C s H fp,PG (cxComp X scope N C s H fp) tg g) (ht:∀C s H fp,PTs (cxComp X scope N C s H fp) ifs tt) (he:∀C s H fp,PE (cxComp X scope N C s H fp) elt te)
  (hsw:swapsWith (.ListComp elt [⟨tg,iter,ifs,0⟩] scope pos2) (some (.Name x pos')) pos.line X.env=pure true:=by rfl)
  (hs:∀x,foldedSetIterable iter X.env x=pure x:=by intro _;rfl) (hf:X.fn x=true\/X.env.scope.names.lookup x=some .local:=by first|exact .inl rfl|exact .inr rfl|assumption) :
  PS X (.Assign [.Name x pos'] (.ListComp elt [⟨tg,iter,ifs,0⟩] scope pos2) pos) (tAsg (tComp k wi g tt te) (gName i)):=by
 intro pins s σ H D I h
 rw [exec_Assign_Name_used _ _ _ _ hsw]
 refine wpAny_bind (wpAny_standAt (wpAny_bind ?_))
 rw [arm_evalThenUse_ListComp]
 show wpAny (model X.prog X.w) X.A (comprehension (.ListComp elt [⟨tg,iter,ifs,0⟩] scope pos2) scope X.env (firstIterPos [⟨tg,iter,ifs,0⟩] pos2) (newList []) false (eval iter X.env) (some (assign (.Name x pos') X.env)) >>= fun _=>pure ()) _ _ _
 refine wpAny_bind (comp_run (Qc:=fun _ s'=>wpAny (model X.prog X.w) X.A (pure ()) (fun _ s''=>wpAny (model X.prog X.w) X.A (pure Flow.next) (SP X pins D) X.xe s'') X.xe s') S hc hi hg ht he hs I h fun s2 H2 fp C σ5 H5 s5 ys its n I2 f2 hC J rv hz q=>?_)
 have I6:Inv X pins σ (upd H5 s2.heap.objs.size (.lst ys)) s5:=comp_end (h':=s5.heap) I2 f2 hC rfl J rv hz ⟨rfl,fun _ _=>rfl⟩
 show wpAny (model X.prog X.w) X.A (assign (.Name x pos') X.env (.ref s2.heap.objs.size)) _ X.xe s5
 obtain ⟨mC,hnC,_⟩:=J.loc
 have cells:∀y c,X.env.cells.lookup y=some c->c≠C:=fun y c e=>by
  obtain ⟨v,z⟩:=I2.cell y c e
  exact Nat.ne_of_lt (Nat.lt_trans z.lt hC)
 have locs:C≠X.env.locals:=Nat.ne_of_gt (Nat.lt_trans I2.lt hC)
 refine wpAny_assign_Name (store_ok2 (v:=.ref s2.heap.objs.size) (u:=.ref s2.heap.objs.size) I6 hN hi' hx rfl (fun s7 I7 ⟨a,sb,ha⟩=>?_) hf)
 have neC:C≠a:=by
  rcases ha with rfl|ha
  ·exact locs
  ·exact Ne.symm (cells _ _ ha)
 refine ⟨mC,?_,fun h' sb'=>?_⟩
 ·obtain ⟨o,es,ep,ho,r⟩:=hnC
  exact ⟨o,es,ep,(sb.2 C neC).trans ho,r⟩
 ·refine wpAny_pure (wpAny_pure ?_)
  have nC:upd H5 s2.heap.objs.size (.lst ys) C=none:=by
   rw [upd_ne (Nat.ne_of_gt hC)];exact J.free
  refine ⟨_,_,I7.turned (it:=C) (h':=h') (t':=s7.toks) (fun b o hb e=>(sb'.2 b hb).trans e) nC locs (.inr (Nat.le_trans I2.sz (Nat.le_of_lt hC))) cells (fun p hp=>?_),q⟩
  obtain ⟨e,_⟩:=I2.pin p hp
  exact Nat.ne_of_lt (Nat.lt_trans (Heap.lt_size e) hC)
section
variable {κ:Type} [DecidableEq κ]
def valV (kvs:List (κ × V)) (k:κ):Option V:=(kvs.find? fun kv=>decide (kv.1=k)).map (·.2)
def putK (kvs:List (κ × V)) (k:κ) (v:V):List (κ × V):=
 if (kvs.any fun kv=>decide (kv.1=k))=true then kvs.map (fun kv=>if kv.1=k then (kv.1,v) else kv) else kvs++[(k,v)]
theorem valV_nil {k:κ}:valV ([]:List (κ × V)) k=none:=rfl
theorem valV_pos {p:κ × V} {r:List (κ × V)} {k:κ} (e:p.1=k):valV (p::r) k=some p.2:=by simp [valV,List.find?_cons,e]
theorem valV_neg {p:κ × V} {r:List (κ × V)} {k:κ} (e:¬p.1=k):valV (p::r) k=valV r k:=by simp [valV,List.find?_cons,e]
theorem valV_any (k:κ):∀kvs:List (κ × V),(kvs.any fun kv=>decide (kv.1=k))=(valV kvs k).isSome
 | []=>rfl
 | p::r=>by
  rw [List.any_cons]
  by_cases e:p.1=k
  ·simp only [valV_pos e,decide_eq_true e,Bool.true_or,Option.isSome_some]
  ·rw [valV_neg e,decide_eq_false e,Bool.false_or];exact valV_any k r
theorem valV_map (k j:κ) (y:V):∀kvs:List (κ × V),valV (kvs.map fun kv=>if kv.1=k then (kv.1,y) else kv) j=(valV kvs j).map fun x=>if j=k then y else x
 | []=>rfl
 | p::r=>by
  have ih:=valV_map k j y r
  rw [List.map_cons]
  by_cases h:p.1=k
  ·rw [if_pos h]
   by_cases e:p.1=j
   ·rw [valV_pos (p:=(p.1,y)) e,valV_pos e,Option.map_some,if_pos (e.symm.trans h)]
   ·rw [valV_neg (p:=(p.1,y)) e,valV_neg e,ih]
  ·rw [if_neg h]
   by_cases e:p.1=j
   ·rw [valV_pos (p:=p) e,valV_pos e,Option.map_some,if_neg (fun z=>h (e.trans z))]
   ·rw [valV_neg (p:=p) e,valV_neg e,ih]
theorem valV_snoc (k j:κ) (y:V):∀kvs:List (κ × V),valV kvs k=none->valV (kvs++[(k,y)]) j=if j=k then some y else valV kvs j
 | [],_=>by
  by_cases e:k=j
  ·rw [if_pos e.symm];exact valV_pos (p:=(k,y)) e
  ·rw [if_neg (fun z=>e z.symm)];exact valV_neg (p:=(k,y)) e
 | p::r,hn=>by
  rw [List.cons_append]
  have hk:¬p.1=k:=fun z=>by rw [valV_pos z] at hn;cases hn
  rw [valV_neg hk] at hn
  have ih:=valV_snoc k j y r hn
  by_cases e:p.1=j
  ·rw [valV_pos e,valV_pos e,if_neg (fun z=>hk (e.trans z))]
  ·rw [valV_neg e,valV_neg e,ih]
theorem valV_put (kvs:List (κ × V)) (k j:κ) (y:V):valV (putK kvs k y) j=if j=k then some y else valV kvs j:=by
 unfold putK
 by_cases a:(kvs.any fun kv=>decide (kv.1=k))=true
 ·rw [if_pos a,valV_map]
  rw [valV_any] at a
  by_cases e:j=k
  ·obtain ⟨x,hx⟩:=Option.isSome_iff_exists.mp a
   rw [if_pos e,e,hx,Option.map_some,if_pos rfl]
  ·rw [if_neg e]
   cases valV kvs j with
   | none=>rfl
   | some x=>rw [Option.map_some,if_neg e]
 ·rw [if_neg a]
  refine valV_snoc k j y kvs ?_
  rw [valV_any] at a
  cases q:valV kvs k with
  | none=>rfl
  | some x=>rw [q] at a;exact (a rfl).elim
theorem length_putK (kvs:List (κ × V)) (k:κ) (v:V):(putK kvs k v).length<=kvs.length+1:=by
 unfold putK
 split
 ·rw [List.length_map];omega
 ·rw [List.length_append,List.length_cons,List.length_nil];omega
theorem putK_new {kvs:List (κ × V)} {k:κ} (v:V) (h:valV kvs k=none):putK kvs k v=kvs++[(k,v)]:=by
 unfold putK
 rw [valV_any,h]
 exact if_neg (by decide)
theorem RelO.isSome_eq {o:Option V} {u:Option Value} (r:RelO o u):o.isSome=u.isSome:=by
 cases o with
 | none=>cases u with
  | none=>rfl
  | some _=>exact (show False from r).elim
 | some _=>cases u with
  | none=>exact (show False from r).elim
  | some _=>rfl
theorem KV.val {kvs:List (κ × V)} {vs:List (κ × Value)} (r:KV kvs vs) (k:κ):RelO (valV kvs k) (valueAt vs k):=by
 unfold KV at r
 induction r with
 | nil=>exact True.intro
 | @cons p q ps qs h t ih=>
  obtain ⟨h1,h2⟩:=h
  by_cases e:p.1=k
  ·have e':q.1=k:=h1.symm.trans e
   have b:valueAt (q::qs) k=some q.2:=by simp [valueAt,List.find?_cons,e']
   rw [valV_pos e,b];exact h2
  ·have e':¬q.1=k:=fun z=>e (h1.trans z)
   have b:valueAt (q::qs) k=valueAt qs k:=by simp [valueAt,List.find?_cons,e']
   rw [valV_neg e,b];exact ih
theorem KV.any {kvs:List (κ × V)} {vs:List (κ × Value)} (r:KV kvs vs) (k:κ):(kvs.any fun kv=>decide (kv.1=k))=vs.any fun kv=>decide (kv.1=k):=by
 unfold KV at r
 induction r with
 | nil=>rfl
 | cons h t ih=>rw [List.any_cons,List.any_cons,ih,h.1]
theorem KV.repl {kvs:List (κ × V)} {vs:List (κ × Value)} (r:KV kvs vs) (k:κ) {y:V} {u:Value} (ry:RelV y u) :
  KV (kvs.map fun kv=>if kv.1=k then (kv.1,y) else kv) (vs.map fun kv=>if kv.1=k then (kv.1,u) else kv):=by
 unfold KV at r ⊢
 induction r with
 | nil=>exact .nil
 | @cons p q ps qs h t ih=>
  rw [List.map_cons,List.map_cons]
  refine .cons ?_ ih
  obtain ⟨h1,h2⟩:=h
  by_cases e:p.1=k
  ·rw [if_pos e,if_pos (h1.symm.trans e)];exact ⟨h1,ry⟩
  ·rw [if_neg e,if_neg (fun z=>e (h1.trans z))];exact ⟨h1,h2⟩
theorem KV.put {kvs:List (κ × V)} {vs:List (κ × Value)} (r:KV kvs vs) (k:κ) {y:V} {u:Value} (ry:RelV y u):KV (putK kvs k y) (stored vs k u):=by
 unfold putK stored
 rw [r.any k]
 by_cases e:(vs.any fun kv=>decide (kv.1=k))=true
 ·rw [if_pos e,if_pos e];exact r.repl k ry
 ·rw [if_neg e,if_neg e];exact Paired.snoc r ⟨rfl,ry⟩
theorem KV.length {kvs:List (κ × V)} {vs:List (κ × Value)} (r:KV kvs vs):kvs.length=vs.length:=Paired.length r
end
theorem kV_is {P:Program} {w:World} {k:Key} {u:Value} (r:RelV (kV k) u):(mixKind P w).is k u=true:=by
 cases k with
 | inl i=>obtain ⟨t,e⟩:=(show ∃t,u=Value.int i t from r);subst e;exact mixKind_int P w i t
 | inr x=>obtain ⟨t,e⟩:=(show ∃t,u=Value.str x t from r);subst e;exact mixKind_str P w x t
theorem items_are {P:Program} {w:World}:∀{ks:List Key} {us:List Value},Vals (ks.map kV) us->ItemsAre (mixKind P w) ks us
 | [],_,r=>by rw [List.map_nil] at r;cases r;exact .nil
 | k::ks,_,r=>by
  rw [List.map_cons] at r
  cases r with
  | cons h t=>exact .cons (kV_is h) (items_are t)
abbrev KT (H:Hp):List (List Key × V)->List (List Key × Addr × Value)->Prop:=Paired fun p q=>p.1=q.1/\H q.2.1=some (.tup (p.1.map kV))/\RelV p.2 q.2.2
theorem KT.val {H:Hp} {kvs:List (List Key × V)} {xs:List (List Key × Addr × Value)} (r:KT H kvs xs) (k:List Key):RelO (valV kvs k) ((atKey xs k).map (·.2)):=by
 induction r with
 | nil=>exact True.intro
 | @cons p q ps qs h t ih=>
  obtain ⟨h1,_,h2⟩:=h
  by_cases e:p.1=k
  ·have e':q.1=k:=h1.symm.trans e
   have b:atKey (q::qs) k=some q.2:=by simp [atKey,List.find?_cons,e']
   rw [valV_pos e,b];exact h2
  ·have e':¬q.1=k:=fun z=>e (h1.trans z)
   have b:atKey (q::qs) k=atKey qs k:=by simp [atKey,List.find?_cons,e']
   rw [valV_neg e,b];exact ih
theorem KT.repl {H:Hp} {kvs:List (List Key × V)} {xs:List (List Key × Addr × Value)} (r:KT H kvs xs) (k:List Key) {y:V} {u:Value} (ry:RelV y u) :
  KT H (kvs.map fun kv=>if kv.1=k then (kv.1,y) else kv) (xs.map (putAt k u)):=by
 induction r with
 | nil=>exact .nil
 | @cons p q ps qs h t ih=>
  rw [List.map_cons,List.map_cons]
  refine .cons ?_ ih
  obtain ⟨h1,h2,h3⟩:=h
  unfold putAt
  by_cases e:p.1=k
  ·rw [if_pos e,if_pos (h1.symm.trans e)];exact ⟨h1,h2,ry⟩
  ·rw [if_neg e,if_neg (fun z=>e (h1.trans z))];exact ⟨h1,h2,h3⟩
theorem KT.put {H:Hp} {kvs:List (List Key × V)} {xs:List (List Key × Addr × Value)} (r:KT H kvs xs) (k:List Key) {b:Addr} {y:V} {u:Value} (hb:H b=some (.tup (k.map kV))) (ry:RelV y u) :
  KT H (putK kvs k y) (storedH xs k b u):=by
 have e:(kvs.any fun kv=>decide (kv.1=k))=(atKey xs k).isSome:=by
  rw [valV_any,(r.val k).isSome_eq,Option.isSome_map]
 unfold putK storedH
 rw [e]
 by_cases q:(atKey xs k).isSome=true
 ·rw [if_pos q,if_pos q];exact r.repl k ry
 ·rw [if_neg q,if_neg q];exact Paired.snoc r ⟨rfl,hb,ry⟩
theorem KT.keeps {H H':Hp} {kvs:List (List Key × V)} {xs:List (List Key × Addr × Value)} (r:KT H kvs xs) (ht:∀b ys,H b=some (.tup ys)->H' b=some (.tup ys)):KT H' kvs xs:=
 Paired.mapP r fun _ _ z=>⟨z.1,ht _ _ z.2.1,z.2.2⟩
section
variable {P:Program} {w:World} {H:Hp} {h:Heap} {a:Addr}
theorem rd_of {u:HO} (ok:HOk P w H h) (e:Rd H a u):ObjOk P w H h a u:=e.ok ok
theorem dk_rd {kvs:List (Key × V)} (ok:HOk P w H h) (e:Rd H a (.dK kvs)):kvs.length<=sizeLine/\(a == sysModules)=false/\∃vs,KV kvs vs/\h.DictOf (mixKind P w) a vs:=
 show ObjOk P w H h a (.dK kvs) from rd_of ok e
theorem dk_of {kvs:List (Key × V)} (ok:HOk P w H h) (e:H a=some (.dK kvs)):kvs.length<=sizeLine/\(a == sysModules)=false/\∃vs,KV kvs vs/\h.DictOf (mixKind P w) a vs:=dk_rd ok (.inl e)
theorem key_of {ks:List Key} (ok:HOk P w H h) (e:H a=some (.tup (ks.map kV))):(tupleKind (mixKind P w)).is h ks a:=by
 obtain ⟨_,its,r,o,h1,h2,n,h3⟩:=(show ObjOk P w H h a (.tup (ks.map kV)) from ok a _ e)
 exact ⟨o,its.toArray,n,h1,h2,h3,by simpa using items_are r⟩
theorem dt_rd {kvs:List (List Key × V)} (ok:HOk P w H h) (e:Rd H a (.dT kvs)):kvs.length<=sizeLine/\(a == sysModules)=false /\
  ∃xs,KT H kvs xs/\h.DictOfH (tupleKind (mixKind P w)) a xs:=by
 obtain ⟨z,y,xs,r,o,es,ep,h1,h2,h3,h4,h5⟩:=(show ObjOk P w H h a (.dT kvs) from rd_of ok e)
 refine ⟨z,y,xs,r,o,es,ep,h1,h2,h3,h4,fun x hx=>?_,h5⟩
 have all:∀{l:List (List Key × V)} {m:List (List Key × Addr × Value)},KT H l m->∀x∈m,(tupleKind (mixKind P w)).is h x.1 x.2.1:=by
  intro l m q
  induction q with
  | nil=>intro x hx;exact nomatch hx
  | @cons p q ps qs hq t ih=>
   intro x hx
   rcases List.mem_cons.mp hx with e|hx
   ·subst e
    exact key_of ok (by rw [<-hq.1];exact hq.2.1)
   ·exact ih x hx
 exact all r x hx
theorem dt_of {kvs:List (List Key × V)} (ok:HOk P w H h) (e:H a=some (.dT kvs)):kvs.length<=sizeLine/\(a == sysModules)=false /\
  ∃xs,KT H kvs xs/\h.DictOfH (tupleKind (mixKind P w)) a xs:=dt_rd ok (.inl e)
end
def DGet (H:Hp) (a:Addr) (y:V) (r:Option V):Prop:=
 (∃kvs k,Rd H a (.dK kvs)/\y=kV k/\r=valV kvs k)\/∃kvs k b,Rd H a (.dT kvs)/\y=.ref b/\H b=some (.tup (k.map kV))/\r=valV kvs k
def DPut (H:Hp) (a:Addr) (y v:V) (H':Hp):Prop:=
 (∃kvs k,H a=some (.dK kvs)/\y=kV k/\kvs.length<sizeLine/\H'=upd H a (.dK (putK kvs k v))) \/
 ∃kvs k b,H a=some (.dT kvs)/\y=.ref b/\H b=some (.tup (k.map kV))/\kvs.length<sizeLine/\H'=upd H a (.dT (putK kvs k v))
theorem DGet.k {H:Hp} {a:Addr} {kvs:List (Key × V)} {k:Key} (e:H a=some (.dK kvs)):DGet H a (kV k) (valV kvs k):=.inl ⟨kvs,k,.inl e,rfl,rfl⟩
theorem DGet.t {H:Hp} {a b:Addr} {kvs:List (List Key × V)} {k:List Key} (e:H a=some (.dT kvs)) (eb:H b=some (.tup (k.map kV))):DGet H a (.ref b) (valV kvs k):=.inr ⟨kvs,k,b,.inl e,rfl,eb,rfl⟩
theorem DPut.k {H:Hp} {a:Addr} {kvs:List (Key × V)} {k:Key} {v:V} (e:H a=some (.dK kvs)) (hl:kvs.length<sizeLine):DPut H a (kV k) v (upd H a (.dK (putK kvs k v))):=.inl ⟨kvs,k,e,rfl,hl,rfl⟩
theorem DPut.t {H:Hp} {a b:Addr} {kvs:List (List Key × V)} {k:List Key} {v:V} (e:H a=some (.dT kvs)) (eb:H b=some (.tup (k.map kV))) (hl:kvs.length<sizeLine) :
  DPut H a (.ref b) v (upd H a (.dT (putK kvs k v))):=.inr ⟨kvs,k,b,e,rfl,eb,hl,rfl⟩
section
variable {X:Cx} {pins:List (Addr × Obj)} {σ:St} {H:Hp} {s:Shared} {a:Addr} {y v:V} {u r:Value} {o:Option V} {A:Around} {E:Value->Shared->Prop}
theorem Inv.big (I:Inv X pins σ H s):sysModules<s.heap.objs.size:=by
 have h:mainGlobals<s.heap.objs.size:=(I.mod.glob.keeps I.bk).lt
 exact Nat.lt_trans (by decide) h
theorem d_in {Q:Value->Shared->Prop} (hu:A.units+1<cLine) (I:Inv X pins σ H s) (g:DGet H a y o) (ry:RelV y u) (h:∀s',Inv X pins σ H s'->Q (.bool o.isSome) s') :
  wpAny (model X.prog X.w) A (compareOp .In u (.ref a)) Q E s:=by
 rcases g with ⟨kvs,k,e,ey,l⟩|⟨kvs,k,b,e,ey,eb,l⟩
 ·subst ey
  obtain ⟨z,hd,vs,rel,dd⟩:=dk_rd I.hok e
  refine wpAny_in_of (kV_is ry) hd dd.mapOf ?_
  rw [<-(rel.val k).isSome_eq,<-l]
  exact h _ (I.tok _)
 ·subst ey
  cases (show u=Value.ref b from ry)
  obtain ⟨z,hd,xs,rel,dd⟩:=dt_rd I.hok e
  refine wpAny_in_heap (tupleKind_room_in1 hu) (key_of I.hok eb) hd dd ?_
  have q:=(rel.val k).isSome_eq
  rw [Option.isSome_map] at q
  rw [<-q,<-l]
  exact h _ (I.tok _)
theorem d_write {h':Heap} {t':Nat} {ob:HO} (I:Inv X pins σ H s) (mu:Mut (H a)) (hs:Heap.SameBut a s.heap h') (he:∃q,h'.get? a=some q) (new:ObjOk X.prog X.w (upd H a ob) h' a ob) :
  Inv X pins σ (upd H a ob) { s with heap:=h',toks:=t' }:=
 I.write (x:=a) (e:=a) mu (.inl rfl) (fun b q hb z=>(hs.2 b hb).trans z) he new
theorem dk_new {P:Program} {w:World} {H':Hp} {h':Heap} {kvs:List (Key × V)} {vs:List (Key × Value)} (z:kvs.length<=sizeLine) (hd:(a == sysModules)=false) (rel:KV kvs vs) (dd:h'.DictOf (mixKind P w) a vs) :
  ObjOk P w H' h' a (.dK kvs):=⟨z,hd,vs,rel,dd⟩
theorem d_setItem {H':Hp} {Q:Unit->Shared->Prop} (hu:A.units+1<cLine) (I:Inv X pins σ H s) (g:DPut H a y v H') (ry:RelV y u) (rv:RelV v r) (h:∀s',Inv X pins σ H' s'->Q () s') :
  wpAny (model X.prog X.w) A (setItem (.ref a) u r) Q E s:=by
 rcases g with ⟨kvs,k,e,ey,l,eH⟩|⟨kvs,k,b,e,ey,eb,l,eH⟩
 ·subst ey eH
  obtain ⟨z,hd,vs,rel,dd⟩:=dk_of I.hok e
  have hz:vs.length<=sizeLine:=by rw [<-rel.length];exact z
  have hl:(putK kvs k v).length<=sizeLine:=by have:=length_putK kvs k v;omega
  refine wpAny_setItem_pairs (hsz:=hz) (kV_is ry) dd fun h' dd' hs=>h _ ?_
  have he:∃q,h'.get? a=some q:=let ⟨q,_,_,hq,_⟩:=dd';⟨q,hq⟩
  exact d_write I (by rw [e];exact True.intro) hs he (dk_new hl hd (rel.put k rv) dd')
 ·subst ey eH
  cases (show u=Value.ref b from ry)
  obtain ⟨z,hd,xs,rel,dd⟩:=dt_of I.hok e
  have hz:xs.length<=sizeLine:=by rw [<-Paired.length rel];exact z
  have hl:(putK kvs k v).length<=sizeLine:=by have:=length_putK kvs k v;omega
  refine wpAny_setItem_heap (hsz:=hz) (tupleKind_room_in1 hu) (key_of I.hok eb) dd fun h' dd' hs=>h _ ?_
  obtain ⟨q,es,ep,hq,h2,h3,h4,_,h5⟩:=dd'
  refine d_write I (by rw [e];exact True.intro) hs ⟨q,hq⟩ ⟨hl,hd,_,(rel.put k eb rv).keeps fun c ys ec=>?_,q,es,ep,hq,h2,h3,h4,h5⟩
  rw [upd_ne (ne_of ec e (fun z=>nomatch z))]
  exact ec
end
def tDIn (ty td:TE):TE:=fun σ H Q=>ty σ H fun y H1=>td σ H1 fun x H2=>∃a o,x=.ref a/\DGet H2 a y o/\Q (.bl o.isSome) H2
def sDPut (td ty tv:TE):TS:=fun D σ H=>tv σ H fun v H1=>td σ H1 fun x H2=>ty σ H2 fun y H3=>∃a H4,x=.ref a/\DPut H3 a y v H4/\D.nx σ H4
section
variable {X:Cx} {o i e value:Expr} {pos pos' tpos:Pos} {td ty tv:TE}
theorem pc_din (hu:X.A.units+1<cLine) (hi:PE X i ty) (ho:PE X o td):PC X .In i o (tDIn ty td):=by
 intro pins s σ H Q I h
 refine thn (hi pins s σ H _ I h) fun iv s1 ⟨y,H1,I1,ry,q1⟩=>thn (ho pins s1 σ H1 _ I1 q1) fun u s2 ⟨x,H2,I2,rx,a,ov,ex,g,q2⟩=>?_
 subst ex
 obtain rfl:u=Value.ref a:=rx
 exact d_in hu I2 g ry fun s3 I3=>⟨.bl ov.isSome,H2,I3,rfl,q2⟩
theorem ps_dput (hu:X.A.units+1<cLine) (ho:PE X o td) (hi:PE X i ty) (hv:PE X value tv) (hs:swapsWith value (some (.Subscript o i pos')) pos.line X.env=pure false) :
  PS X (.Assign [.Subscript o i pos'] value pos) (sDPut td ty tv):=by
 intro pins s σ H D I h
 refine wpAny_Assign_Subscript (thn (hv pins s σ H _ I h) fun r s1 ⟨v,H1,I1,rv,q1⟩=>thn (ho pins s1 σ H1 _ I1 q1) fun u s2 ⟨x,H2,I2,rx,q2⟩=>thn (hi pins s2 σ H2 _ I2 q2) fun iv s3 ⟨y,H3,I3,ry,a,H4,ex,g,q3⟩=>?_) hs
 subst ex
 obtain rfl:u=Value.ref a:=rx
 exact d_setItem hu I3 g ry rv fun s4 I4=>⟨σ,H4,I4,q3⟩
end
theorem dt_empty {P:Program} {w:World} {H:Hp} (h:Heap) (hb:sysModules<h.objs.size):ObjOk P w H (h.push { cls:=.type "dict",data:=.dict #[] }) h.objs.size (.dT []):=
 ⟨Nat.zero_le _,beq_eq_false_iff_ne.mpr (Ne.symm (Nat.ne_of_lt hb)),[],.nil,_,#[],0,Heap.get?_push_size _ rfl,⟨rfl,rfl,rfl⟩,rfl,rfl,List.nodup_nil⟩
def tDNewT:TE:=fun _ H Q=>∀p,H p=none->Q (.ref p) (upd H p (.dT []))
section
variable {X:Cx} {pos:Pos}
theorem pe_dnewT:PE X (.Dict [] [] pos) tDNewT:=fun pins s σ H Q I h=>
 wpAny_Dict_empty ⟨.ref s.heap.objs.size,_,I.laid (a:=s.heap.objs.size) (o:=.dT []) (t':=s.toks) (fun _ _ q=>Heap.get?_push_of_some _ q) (Nat.le_refl _) (dt_empty s.heap I.big),rfl,h _ (I.hok.fresh (Nat.le_refl _))⟩
end
def tCompD (k:Nat) (wi:TI) (g:TG) (tt:TT) (tk tv:TE):TE:=fun σ H Q=>wi σ H fun J H1=>∃W:Nat->Nat->List (Key × V)->St->Hp->Prop,(∃m,W 0 m [] (List.replicate k none++σ) H1) /\
 ∀i m kvs σ1 H',W i m kvs σ1 H'->
  (J.stop i H'/\∀D,H' D=none->Q (.ref D) (upd H' D (.dK kvs))) \/
  (J.go i H'/\kvs.length<sizeLine/\∃N:List (Key × V)->St->Hp->Prop,(∀zs σ' H'',N zs σ' H''->∃m',m'<m/\W (i+1) m' zs σ' H'') /\
   ∀x H2,J.yld i H' x H2->g x σ1 H2 fun σ2 H3=>tt σ2 H3 fun b H4=>if b=true then tk σ2 H4 fun y H5=>tv σ2 H5 fun z H6=>∃k,y=kV k/\N (putK kvs k z) σ2 H6 else N kvs σ2 H4)
theorem dict0 {P:Program} {w:World} {h:Heap} {a:Addr} (e:h.get? a=some { cls:=.type "dict",data:=.dict #[] }):h.DictOf (mixKind P w) a []:=⟨_,#[],0,e,⟨rfl,rfl,rfl⟩,rfl,by intro x hx;simp at hx,.nil,List.nodup_nil⟩
section
variable {X:Cx} {scope:Scope} {N:List Str} {k:Nat} {pins:List (Addr × Obj)} {σ:St} {H:Hp} {s:Shared} {fp:List Addr}
theorem comp_endD {h':Heap} {D C:Addr} {σ1:St} {H1:Hp} {s1:Shared} {kvs:List (Key × V)} {vs:List (Key × Value)} {oD:Obj} (I:Inv X pins σ H s) (hf:∀b∈fp,FpOk X pins H b)
  (hC:s.heap.objs.size<C) (hD:D=s.heap.objs.size)
  (J:Inv (cxComp X scope N C s H fp) [(D,oD)] σ1 H1 s1) (rv:KV kvs vs) (hz:kvs.length<=sizeLine) (hd:∀h:Heap,h.get? D=some oD->h.DictOf (mixKind X.prog X.w) D vs) (sb:Heap.SameBut C s1.heap h') :
  Inv X pins σ (upd H1 D (.dK kvs)) { s1 with heap:=h' }:=by
 obtain ⟨eD,nD,neC,_,_⟩:=J.pin (D,oD) (by simp)
 have neC':D≠C:=neC
 have nC:H1 C=none:=J.free
 have B:Un (frs X.stack) fp H H1 s.heap s1.heap:=J.base
 have lt:∀{b:Addr} {o:Obj},s.heap.get? b=some o->b≠C/\b≠D:=fun {b o} e=>⟨Nat.ne_of_lt (Nat.lt_trans (Heap.lt_size e) hC),by rw [hD];exact Nat.ne_of_lt (Heap.lt_size e)⟩
 refine I.call' (s':={ s1 with heap:=h' }) (ch:=fp) (show s1.os=s.os from J.os) ?_ ?_ J.bare fun b hb=>?_
 ·refine ⟨fun b o q n hb hx=>(sb.2 b (lt q).1).trans (B.keep b o q n hb hx),fun b o q n hb hx=>?_,fun b o q n hx=>?_,fun b o q hx=>?_,fun b xs q=>?_,fun b o xs q=>?_,fun b ps q=>?_⟩
  ·obtain ⟨sl,e⟩:=B.slot b o q n hb hx
   exact ⟨sl,(sb.2 b (lt q).1).trans e⟩
  ·rw [upd_ne (lt q).2];exact B.free b o q n hx
  ·obtain ⟨o',e⟩:=B.there b o q hx
   exact ⟨o',(sb.2 b (lt q).1).trans e⟩
  ·have e:=B.tups b xs q
   rw [upd_ne (ne_of_none e nD)];exact e
  ·have e:=B.frzs b o xs q
   rw [upd_ne (ne_of_none e nD)];exact e
  ·obtain ⟨m,e⟩:=B.tbls b ps q
   exact ⟨m,by rw [upd_ne (ne_of_none e nD)];exact e⟩
 ·intro a o e
  by_cases ha:a=D
  ·subst ha
   rw [upd_same] at e;cases e
   exact ⟨hz,beq_eq_false_iff_ne.mpr (Ne.symm (Nat.ne_of_lt (by rw [hD];exact I.big))),vs,rv,hd _ ((sb.2 _ neC').trans eD)⟩
  ·rw [upd_ne ha] at e
   refine (J.hok a o e).stay (fun b u hb q=>(sb.2 b ?_).trans q) (fun b q=>?_) fun b xs q=>?_
   ·rcases hb with rfl|hb
    ·exact ne_of_none e nC
    ·exact ne_of_none hb nC
   ·rw [upd_ne (ne_of_none q nD)];exact q
   ·rw [upd_ne (ne_of_none q nD)];exact q
 ·obtain ⟨_,z1,z2,z3,z4,z5⟩:=hf b hb
  exact ⟨z3,z1,z4,z5⟩
theorem codeAny_compLoop_genD {prog:Program} {w:World} {A:Around} {kx vx target iter:Expr} {ifs:List Expr} {scope:Scope} {pos:Pos} {it:Value} {D:Addr} {env:Env} {R:Result->Shared->Prop} {s:Shared} (I:Nat->Shared->Prop)
  (turn:∀n s,I n s->wpAny (model prog w) A (pyNext it) (fun r s₁=>match r with
   | none=>R (.ok .next) s₁
   | some v=>wpAny (model prog w) A (letOwnedTupleGo target it v) (fun _ s₁'=>wpAny (model prog w) A (assign target env v) (fun _ s₂=>
     wpAny (model prog w) A (forIn ifs true fun c r=>if r=true then do let ok <-isTrue c env (eval c env);pure (ForInStep.yield ok) else pure (ForInStep.yield r)) (fun ok s₃=>
      if ok=true then wpAny (model prog w) A (eval kx env) (fun kv s₄=>wpAny (model prog w) A (eval vx env) (fun vv s₅=>
       wpAny (model prog w) A (dictSet D kv vv) (fun _ s₆=>∃m,m<n/\I m s₆) (fun _ _=>False) s₅) (fun _ _=>False) s₄) (fun _ _=>False) s₃
      else ∃m,m<n/\I m s₃) (fun _ _=>False) s₂) (fun _ _=>False) s₁') (fun _ _=>False) s₁) (fun _ _=>False) s)
  (n:Nat) (h:I n s):codeAny (model prog w) A (.compLoop (.DictComp kx vx [⟨target,iter,ifs,0⟩] scope pos) 0 it (.ref D) env) R s:=by
 refine codeAny_loop rfl I (fun n s hI=>?_) n h
 show wpAny _ A ((compTurn (.DictComp kx vx [⟨target,iter,ifs,0⟩] scope pos) 0 it (.ref D) env).onRaise (fun x=>do noteFrame x env;theTreesLotGoes x)) _ _ s
 refine wpAny_noted ?_
 rw [compTurn_dict]
 refine wpAny_bind (wpAny_standAt (wpAny_bind (wpAny_mono (turn n s hI) (fun r s₁ h₁=>?_) fun _ _ h'=>h'.elim)))
 cases r with
 | none=>exact wpAny_pure h₁
 | some v=>
  refine wpAny_bind (wpAny_mono h₁ (fun _ s₁' h₁'=>?_) fun _ _ h'=>h'.elim)
  refine wpAny_bind (wpAny_mono h₁' (fun _ s₂ h₂=>wpAny_bind (wpAny_mono h₂ (fun ok s₃ h₃=>?_) fun _ _ h'=>h'.elim)) fun _ _ h'=>h'.elim)
  cases ok with
  | false=>exact wpAny_pure ⟨rfl,h₃⟩
  | true=>
   exact wpAny_bind (wpAny_bind (wpAny_mono h₃ (fun kv s₄ h₄=>wpAny_bind (wpAny_holding (wpAny_mono h₄ (fun vv s₅ h₅=>wpAny_bind (wpAny_standAt (wpAny_holding (wpAny_mono h₅ (fun _ s₆ h₆=>wpAny_pure ⟨rfl,h₆⟩) fun _ _ h'=>h'.elim)))) fun _ _ h'=>h'.elim))) fun _ _ h'=>h'.elim))
theorem comp_runD {kx vx iter tg:Expr} {ifs:List Expr} {pos fpos:Pos} {wi:TI} {g:TG} {tt:TT} {tk tv:TE} {use:Option (Value->Sem Unit)} {Qc:Value->Shared->Prop} {Q:VK} (S:CompScope X scope N k) (hc:X.calm=true) (hi:PI X tg iter wi)
  (hg:∀C s H fp,PG (cxComp X scope N C s H fp) tg g) (ht:∀C s H fp,PTs (cxComp X scope N C s H fp) ifs tt) (hk:∀C s H fp,PE (cxComp X scope N C s H fp) kx tk) (hv:∀C s H fp,PE (cxComp X scope N C s H fp) vx tv)
  (hs:∀x,foldedSetIterable iter X.env x=pure x) (I:Inv X pins σ H s) (h:tCompD k wi g tt tk tv σ H Q)
  (fin:∀(s2:Shared) (H2:Hp) (fp:List Addr) (C:Addr) (σ5:St) (H5:Hp) (s5:Shared) (kvs:List (Key × V)) (vs:List (Key × Value)) (oD:Obj),Inv X pins σ H2 s2->(∀b∈fp,FpOk X pins H2 b)->s2.heap.objs.size<C->
   Inv (cxComp X scope N C s2 H2 fp) [(s2.heap.objs.size,oD)] σ5 H5 s5->KV kvs vs->kvs.length<=sizeLine->(∀h:Heap,h.get? s2.heap.objs.size=some oD->h.DictOf (mixKind X.prog X.w) s2.heap.objs.size vs)->Q (.ref s2.heap.objs.size) (upd H5 s2.heap.objs.size (.dK kvs))->
   compPost (model X.prog X.w) X.A X.xe use Qc (.ref s2.heap.objs.size) C (.ok .next) s5) :
  wpAny (model X.prog X.w) X.A (comprehension (.DictComp kx vx [⟨tg,iter,ifs,0⟩] scope pos) scope X.env fpos newDict false (eval iter X.env) use) Qc X.xe s:=by
 have hclos:closureFor scope X.env=pure (closL X.env.cells scope.names []):=closureFor_eq fun x hx hk=>by
  obtain ⟨c,e⟩:=I.ok.has x.1 (S.free x hx hk)
  rw [e];rfl
 refine wpAny_comprehension_free (use:=use) rfl hs hclos S.kind S.loc (thn (hi pins s σ H _ I h) fun v s1 h1=>thn h1 fun itv s2 h2=>?_)
 obtain ⟨it,fp,tn,J,H2,e,I2,T,st2,f2,W,⟨m0,w0⟩,turn⟩:=h2
 subst e
 have ho2:=T.obj 0 _ st2
 have fpLt:∀b∈fp,b<s2.heap.objs.size:=fun b hb=>by obtain ⟨o,e,_⟩:=ho2 b hb;exact Heap.lt_size e
 refine wpAny_newObj_type (wpAny_newFunctionEnv S.nocell (by intro y hy;simp at hy) (fun h₁ hns₁ hsb₁=>?_) S.kind)
 dsimp only at hns₁ hsb₁ ⊢
 generalize hH2:s2.heap.push { cls:=.type "dict",dict:=none,data:=.dict #[] }=HH at hns₁ hsb₁ ⊢
 have hCs:HH.objs.size=s2.heap.objs.size+1:=by rw [<-hH2,Heap.size_push]
 have hC:s2.heap.objs.size<HH.objs.size:=by rw [hCs];exact Nat.lt_succ_self _
 have old:∀b o,s2.heap.get? b=some o->h₁.get? b=some o:=fun b o e=>hsb₁.extBut b o (Nat.ne_of_lt (Nat.lt_trans (Heap.lt_size e) hC)) (Heap.get?_push_of_some _ (hH2▸Heap.get?_push_of_some _ e))
 have hacc:h₁.get? s2.heap.objs.size=some { cls:=.type "dict",data:=.dict #[] }:=hsb₁.extBut _ _ (Nat.ne_of_lt hC) (Heap.get?_push_of_some _ (hH2▸Heap.get?_push_size _ rfl))
 generalize HH.objs.size=C at *
 let X':=cxComp X scope N C s2 H2 fp
 have stat:∀{H':Hp} {o:Obj},(∀b∈fp,H' b=none)->∀b∈fp,FpOk X' [(s2.heap.objs.size,o)] H' b:=fun {H' o} hn b hb=>by
  obtain ⟨z0,z1,z2,z3,z4,z5⟩:=f2 b hb
  refine ⟨hn b hb,Nat.ne_of_lt (Nat.lt_trans (fpLt b hb) hC),fun z=>?_,.inl hb,fun x c e=>?_,fun p hp=>?_⟩
  ·rcases List.mem_cons.mp (I2.stkSub b z) with y|y
   ·exact z1 y
   ·exact z2 y
  ·rcases closL_sub (show (closL X.env.cells scope.names []).lookup x=some c from e) with y|y
   ·simp at y
   ·exact z4 x c y
  ·have e:p=(s2.heap.objs.size,o):=by
    have hp':p∈([]:List (Addr × Obj))++[(s2.heap.objs.size,o)]:=hp
    simpa using hp'
   subst e
   exact Ne.symm (Nat.ne_of_lt (fpLt b hb))
 have I3:Inv X' [(s2.heap.objs.size,{ cls:=.type "dict",data:=.dict #[] })] (List.replicate k none++σ) H2 { s2 with heap:=h₁,toks:=s2.toks+([]:List (Str × Value)).length }:=
  comp_start S hc I2 f2 ho2 hC rfl old hacc (fun v z=>by cases z) (by simpa using hns₁)
 have loop:∀s₃:Shared,s₃={ s2 with heap:=h₁,toks:=s2.toks+([]:List (Str × Value)).length }->
   codeAny (model X.prog X.w) X.A (.compLoop (.DictComp kx vx [⟨tg,iter,ifs,0⟩] scope pos) 0 (.ref it) (.ref s2.heap.objs.size) (compEnvC scope (closL X.env.cells scope.names []) C X.env))
    (compPost (model X.prog X.w) X.A X.xe use Qc (.ref s2.heap.objs.size) C) s₃:=by
  rintro s₃ rfl
  refine codeAny_compLoop_genD (fun m s'=>∃i kvs vs oD σ' H',Inv X' [(s2.heap.objs.size,oD)] σ' H' s'/\KV kvs vs/\kvs.length<=sizeLine/\(∀h:Heap,h.get? s2.heap.objs.size=some oD->h.DictOf (mixKind X.prog X.w) s2.heap.objs.size vs)/\(∀v,oD.data≠.cell v)/\tn i s'.heap/\(∀b∈fp,H' b=none)/\W i m kvs σ' H') ?_ m0
   ⟨0,[],[],_,_,H2,I3,.nil,Nat.zero_le _,fun h e=>dict0 e,(fun v z=>by cases z),T.keep _ _ _ st2 fun b _ o e=>old b o e,fun b hb=>(f2 b hb).1,w0⟩
  rintro m s4 ⟨i,kvs,vs,oD,σ4,H4,I4,rv,hz,hdd,hcc,st4,fr4,w4⟩
  rcases turn i m kvs σ4 H4 w4 with ⟨stop,qn⟩|⟨go,hlt,M,hM,step⟩
  ·refine thn (T.done X' rfl rfl rfl rfl i _ s4 σ4 H4 (fun _ _=>False) I4 (stat fr4) st4 stop) fun r s5 ⟨hr,I5⟩=>?_
   subst hr
   have nD:=(I5.pin (s2.heap.objs.size,oD) (by simp)).2.1
   exact fin s2 H2 fp C _ _ _ kvs vs oD I2 f2 hC I5 rv hz hdd (qn _ nD)
  ·refine thn (T.item X' rfl rfl rfl rfl i _ s4 σ4 H4 (fun _ _=>False) I4 (stat fr4) st4 go) fun r s5 ⟨u,hr,h5⟩=>?_
   subst hr
   refine thn h5 fun _ s6 ⟨x,H6,I6,r6,y6,st6,fr6⟩=>?_
   have I6':=I6.pinned (stat fr6) (T.obj _ _ st6)
   have back:∀{σ7:St} {H7:Hp} {s7:Shared},Inv X' ([(s2.heap.objs.size,oD)]++pinsAt fp s6.heap) σ7 H7 s7->tn (i+1) s7.heap/\∀b∈fp,H7 b=none:=fun {σ7 H7 s7} I7=>by
    refine ⟨T.keep _ _ _ st6 fun b hb o e=>(I7.pin (b,o) (List.mem_append_right _ (List.mem_append_right _ (mem_pinsAt hb e)))).1,fun b hb=>?_⟩
    obtain ⟨o,e,d⟩:=T.obj _ _ st6 b hb
    exact (I7.pin (b,o) (List.mem_append_right _ (List.mem_append_right _ (mem_pinsAt hb e)))).2.1
   refine thn (hg C s2 H2 fp _ s6 σ4 H6 x u _ I6' r6 (step x H6 y6)) fun _ s7 ⟨σ7,H7,I7,q7⟩=>?_
   refine thn (ht C s2 H2 fp _ s7 σ7 H7 _ I7 q7) fun b s8 ⟨H8,I8,q8⟩=>?_
   cases b with
   | false=>
    rw [if_neg Bool.false_ne_true] at q8 ⊢
    obtain ⟨m',hm,w'⟩:=hM _ _ _ q8
    obtain ⟨t8,f8⟩:=back I8
    exact ⟨m',hm,i+1,kvs,vs,oD,σ7,H8,I8.unpinned,rv,hz,hdd,hcc,t8,f8,w'⟩
   | true=>
    rw [if_pos rfl] at q8 ⊢
    refine thn (hk C s2 H2 fp _ s8 σ7 H8 _ I8 q8) fun yk s9 ⟨zk,H9,I9,r9,q9⟩=>?_
    refine thn (hv C s2 H2 fp _ s9 σ7 H9 _ I9 q9) fun yv sA ⟨zv,HA,IA,rA,kk,ek,qA⟩=>?_
    subst ek
    obtain ⟨t9,f9⟩:=back IA
    have I9u:=IA.unpinned
    obtain ⟨eD,nD,neC,nfD,_⟩:=I9u.pin (s2.heap.objs.size,oD) (by simp)
    have hzv:vs.length<=sizeLine:=by rw [<-rv.length];exact hz
    refine wpAny_dictSet_pairs (hsz:=hzv) (kV_is r9) (hdd _ eD) fun h' dd' hs=>?_
    obtain ⟨m',hm,w'⟩:=hM _ _ _ qA
    obtain ⟨o',ho'⟩:∃q,h'.get? s2.heap.objs.size=some q:=let ⟨q,_,_,hq,_⟩:=dd';⟨q,hq⟩
    have hc':∀v,o'.data≠.cell v:=fun v z=>by
     obtain ⟨q,es,ep,hq,hx,hdt,_⟩:=dd'
     rw [ho'] at hq;cases hq
     rw [hdt] at z;cases z
    have kp:∀b o,b≠s2.heap.objs.size->sA.heap.get? b=some o->h'.get? b=some o:=fun b o hb e=>(hs.2 b hb).trans e
    have I9n:Inv X' [] σ7 HA sA:=I9u.pins_of fun p hp=>nomatch hp
    have I10:Inv X' [] σ7 HA { sA with heap:=h',toks:=sA.toks+1 }:=
     I9n.turned (t':=sA.toks+1) kp nD neC (.inr (Nat.le_refl _)) (fun x c e=>by
      rcases closL_sub (show (closL X.env.cells scope.names []).lookup x=some c from e) with w|w
      ·simp at w
      ·obtain ⟨v,zc⟩:=I2.cell x c w
       exact Nat.ne_of_lt zc.lt) (fun p hp=>nomatch hp)
    refine ⟨m',hm,i+1,putK kvs kk zv,stored vs kk yv,o',σ7,HA,?_,rv.put kk rA,?_,fun h e=>dd'.at fun o e'=>(by rw [ho'] at e';cases e';exact e),hc',?_,f9,w'⟩
    ·refine I10.pins_of fun p hp=>?_
     have e:p=(s2.heap.objs.size,o'):=by simpa using hp
     subst e
     exact ⟨ho',nD,neC,nfD,hc'⟩
    ·have:=length_putK kvs kk zv
     omega
    ·exact T.keep _ _ _ t9 fun b hb o e=>kp b o (Nat.ne_of_lt (fpLt b hb)) e
 exact codeAny_compStart_dict (loop _ rfl) (T.self _ 0 _ _ _ (T.keep _ _ _ st2 fun b _ o e=>old b o e) (loop _ rfl))
end
theorem ps_setCompD {X:Cx} {scope:Scope} {N:List Str} {k:Nat} {i:Nat} {x:Str} {kx vx iter tg:Expr} {ifs:List Expr} {pos pos' pos2:Pos} {wi:TI} {g:TG} {tt:TT} {tk tv:TE} (hN:X.N.Nodup) (hi':X.N[i]? = some x) (hx:Loc X.env.scope x)
  (S:CompScope X scope N k) (hc:X.calm=true) (hi:PI X tg iter wi)
  (hg:∀C s H fp,PG (cxComp X scope N C s H fp) tg g) (ht:∀C s H fp,PTs (cxComp X scope N C s H fp) ifs tt) (hk:∀C s H fp,PE (cxComp X scope N C s H fp) kx tk) (hv:∀C s H fp,PE (cxComp X scope N C s H fp) vx tv)
  (hsw:swapsWith (.DictComp kx vx [⟨tg,iter,ifs,0⟩] scope pos2) (some (.Name x pos')) pos.line X.env=pure true:=by rfl)
  (hs:∀x,foldedSetIterable iter X.env x=pure x:=by intro _;rfl) (hf:X.fn x=true\/X.env.scope.names.lookup x=some .local:=by first|exact .inl rfl|exact .inr rfl|assumption) :
  PS X (.Assign [.Name x pos'] (.DictComp kx vx [⟨tg,iter,ifs,0⟩] scope pos2) pos) (tAsg (tCompD k wi g tt tk tv) (gName i)):=by
 intro pins s σ H D I h
 rw [exec_Assign_Name_used _ _ _ _ hsw]
 refine wpAny_bind (wpAny_standAt (wpAny_bind ?_))
 rw [arm_evalThenUse_DictComp]
 show wpAny (model X.prog X.w) X.A (comprehension (.DictComp kx vx [⟨tg,iter,ifs,0⟩] scope pos2) scope X.env (firstIterPos [⟨tg,iter,ifs,0⟩] pos2) newDict false (eval iter X.env) (some (assign (.Name x pos') X.env)) >>= fun _=>pure ()) _ _ _
 refine wpAny_bind (comp_runD (Qc:=fun _ s'=>wpAny (model X.prog X.w) X.A (pure ()) (fun _ s''=>wpAny (model X.prog X.w) X.A (pure Flow.next) (SP X pins D) X.xe s'') X.xe s') S hc hi hg ht hk hv hs I h fun s2 H2 fp C σ5 H5 s5 kvs vs oD I2 f2 hC J rv hz hdd q=>?_)
 have I6:Inv X pins σ (upd H5 s2.heap.objs.size (.dK kvs)) s5:=comp_endD (h':=s5.heap) I2 f2 hC rfl J rv hz hdd ⟨rfl,fun _ _=>rfl⟩
 show wpAny (model X.prog X.w) X.A (assign (.Name x pos') X.env (.ref s2.heap.objs.size)) _ X.xe s5
 obtain ⟨mC,hnC,_⟩:=J.loc
 have cells:∀y c,X.env.cells.lookup y=some c->c≠C:=fun y c e=>by
  obtain ⟨v,z⟩:=I2.cell y c e
  exact Nat.ne_of_lt (Nat.lt_trans z.lt hC)
 have locs:C≠X.env.locals:=Nat.ne_of_gt (Nat.lt_trans I2.lt hC)
 refine wpAny_assign_Name (store_ok2 (v:=.ref s2.heap.objs.size) (u:=.ref s2.heap.objs.size) I6 hN hi' hx rfl (fun s7 I7 ⟨a,sb,ha⟩=>?_) hf)
 have neC:C≠a:=by
  rcases ha with rfl|ha
  ·exact locs
  ·exact Ne.symm (cells _ _ ha)
 refine ⟨mC,?_,fun h' sb'=>?_⟩
 ·obtain ⟨o,es,ep,ho,r⟩:=hnC
  exact ⟨o,es,ep,(sb.2 C neC).trans ho,r⟩
 ·refine wpAny_pure (wpAny_pure ?_)
  have nC:upd H5 s2.heap.objs.size (.dK kvs) C=none:=by
   rw [upd_ne (Nat.ne_of_gt hC)];exact J.free
  refine ⟨_,_,I7.turned (it:=C) (h':=h') (t':=s7.toks) (fun b o hb e=>(sb'.2 b hb).trans e) nC locs (.inr (Nat.le_trans I2.sz (Nat.le_of_lt hC))) cells (fun p hp=>?_),q⟩
  obtain ⟨e,_⟩:=I2.pin p hp
  exact Nat.ne_of_lt (Nat.lt_trans (Heap.lt_size e) hC)
def Itv (K:PySem.W.Frag) (a:Addr) (n:Nat):It:=
 ⟨fun i H=>∃xs x,SqL K H a xs/\xs.length=n/\i<n/\xs[n - 1 - i]? = some x,fun i H x H'=>H'=H/\∀xs,SqL K H a xs->xs[n - 1 - i]? = some x,fun i H=>n=i⟩
theorem turn_rev {P:Program} {w:World} {K:PySem.W.Frag} {tg:Expr} (a it:Addr) (n:Nat):Turn P w K tg (Itv K a n) [it] it (fun i h=>i<=n/\h.IsRevIter it a ((n:Int) - 1 - (i:Int))) where
 mem:=by simp
 obj:=fun i h st b hb=>by
  have e:b=it:=by simpa using hb
  subst e
  obtain ⟨_,o,e,c,d⟩:=st
  exact ⟨o,e,fun v z=>by rw [d] at z;cases z⟩
 keep:=fun i h h' st k=>⟨st.1,st.2.at fun o e=>k it (by simp) o e⟩
 item:=by
  intro X hP hw hK hc i pins s σ H E I hf st hg
  subst hP hw hK
  obtain ⟨xs,x,hq,hn,hi,hx⟩:=hg
  obtain ⟨its,rv,p,hz⟩:=I.list hq
  obtain ⟨u,hu,ru⟩:=rv.get hx
  obtain ⟨f0,f1,f2,f3,f4,f5⟩:=hf it (by simp)
  have e1:(n:Int) - 1 - (i:Int)=((n - 1 - i:Nat):Int):=by omega
  have hit:=st.2
  rw [e1] at hit
  refine wpAny_pyNext_rev_item hit p.isList (x:=u) (by simpa using hu) fun h' st' sb=>?_
  have I1:Inv X pins σ H { s with heap:=h' }:=I.turned (t':=s.toks) (fun b o hb e=>(sb.2 b hb).trans e) f0 f1 f3 f4 f5
  have e2:((n - 1 - i:Nat):Int) - 1=(n:Int) - 1 - ((i+1:Nat):Int):=by omega
  rw [e2] at st'
  obtain ⟨o,e,c,d⟩:=id st'
  exact ⟨u,rfl,go_of (s:={ s with heap:=h' }) e c d (by decide) ⟨x,H,I1,ru,⟨rfl,fun ys hy=>by rw [I.list_inj hy hq];exact hx⟩,⟨hi,st'⟩,fun b hb=>(hf b hb).1⟩⟩
 done:=by
  intro X hP hw hK hc i pins s σ H E I hf st hg
  subst hP hw hK
  obtain ⟨f0,f1,f2,f3,f4,f5⟩:=hf it (by simp)
  have hg':n=i:=hg
  have e1:(n:Int) - 1 - (i:Int) = -1:=by omega
  have hit:=st.2
  rw [e1] at hit
  exact wpAny_pyNext_rev_end (I.ok.hd hc) hit fun h' eb=>⟨rfl,I.turned (t':=s.toks) (fun b o hb e=>eb b o hb e) f0 f1 f3 f4 f5⟩
 self:=fun _ _ _ _ _ st h=>wpAny_pyIter_revIter st.2 h
section
variable {X:Cx} {K:PySem.W.Frag}
def iRev (K:PySem.W.Frag) (ta:TA):TI:=fun σ H R=>ta σ H fun vs H1=>∃a xs,vs=[.ref a]/\SqL K H1 a xs/\R (Itv K a xs.length) H1
theorem pi_rev {a:Expr} {ta:TA} {tg:Expr} {p2 pos2:Pos} (hg:Gl X "reversed") (hm:X.mg "reversed"=none) (ha:PA X [a] ta) (hs:starEach [a] X.env=[(false,eval a X.env)]:=by rfl) :
  PI X tg (.Call (.Name "reversed" p2) [a] [] pos2) (iRev X.K ta):=by
 intro pins s σ H R I h
 refine Call_ (ld_blt (u:=.type "reversed") I hg hm (by kernel_rfl) (PyProof.Rows.callWith_type1 (thn (ha pos2 pins s σ H _ I h) fun us s1 ⟨vs,H1,I1,r1,q1⟩=>?_) hs rfl))
 obtain ⟨l,xs,e,hq,q⟩:=q1
 subst e
 cases r1 with
 | cons r rr=>
  cases rr
  cases r
  obtain ⟨its,rv,p,hz⟩:=I1.list hq
  refine call_reversed_list p.isList ?_
  have e1:((its.toArray.size:Nat):Int) - 1=(xs.length:Int) - 1 - ((0:Nat):Int):=by rw [List.size_toArray,<-rv.length];simp
  rw [e1]
  have hr:(s1.heap.push (revObj l ((xs.length:Int) - 1 - ((0:Nat):Int)))).IsRevIter s1.heap.objs.size l ((xs.length:Int) - 1 - ((0:Nat):Int)):=⟨_,Heap.get?_push_size _ rfl,rfl,rfl⟩
  refine wpAny_pyIter_revIter (s:={ s1 with heap:=s1.heap.push (revObj l ((xs.length:Int) - 1 - ((0:Nat):Int))) }) hr ?_
  refine ⟨s1.heap.objs.size,[s1.heap.objs.size],_,_,H1,rfl,I1.kept (t':=s1.toks) fun b o e=>Heap.get?_push_of_some _ e,turn_rev l _ xs.length,⟨Nat.zero_le _,hr⟩,fun b hb=>?_,q⟩
  have e:b=s1.heap.objs.size:=by simpa using hb
  subst e
  exact I1.fpOk (Nat.le_refl _) (I1.hok.fresh (Nat.le_refl _))
theorem pi_revK {a:Expr} {ta:TA} {tg:Expr} {p2 pos2:Pos} (h:X.K=K) (hg:Gl X "reversed") (hm:X.mg "reversed"=none) (ha:PA X [a] ta) (hs:starEach [a] X.env=[(false,eval a X.env)]:=by rfl) :
  PI X tg (.Call (.Name "reversed" p2) [a] [] pos2) (iRev K ta):=by subst h;exact pi_rev hg hm ha hs
def rMaxL (K:PySem.W.Frag):List V->Hp->VK->Prop:=fun xs H Q=>∃(a:Addr) (ns:List Int),xs=[.ref a]/\SqL K H a (ns.map V.int)/\ns≠[]/\∀M:Int,M∈ns->(∀b∈ns,b<=M)->Q (.int M) H
theorem call_maxL (hc:X.calm=true):CallR X (.builtin "max") (rMaxL X.K):=by
 intro pins s σ H xs us Q I r h
 obtain ⟨a,ns,rfl,hq,hne,q⟩:=h
 obtain ⟨u,rfl,ru⟩:=vals1 r
 cases ru
 obtain ⟨its,rv,pl,hz⟩:=I.list hq
 have hi:=vals_intsAre rv
 obtain ⟨ys,e⟩:=hi.allInts.items
 have hns:ns=ys.toList.map (·.1):=by
  rw [<-nums_intItems,<-e]
  exact hi.numsOf.symm
 have hsz:0<ys.size:=by
  cases hs:ys.size with
  | zero=>
   exfalso
   apply hne
   have:ys.toList.length=0:=by rw [Array.length_toList];exact hs
   rw [hns,List.length_eq_zero_iff.mp this];rfl
  | succ n=>omega
 have hl:=pl.isList
 rw [e] at hl
 refine max_intList (I.ok.hd hc) hl hsz fun v h' tk hv hk=>?_
 obtain ⟨t,rfl⟩:=intItems_at hv
 obtain ⟨h1,h2⟩:=argBest_gt (numAt ys) (ys.size - 1)
 refine ⟨.int _,H,I.kept hk,⟨t,rfl⟩,q _ ?_ fun b hb=>?_⟩
 ·rw [hns,numAt_eq];exact getD_mem (by rw [List.length_map,Array.length_toList];omega)
 ·rw [hns] at hb
  obtain ⟨j,hj,rfl⟩:=mem_getD hb
  rw [List.length_map,Array.length_toList] at hj
  rw [<-numAt_eq];exact h2 j (by omega)
theorem call_maxLK (h:X.K=K) (hc:X.calm=true):CallR X (.builtin "max") (rMaxL K):=by subst h;exact call_maxL hc
end
section
variable {P:Program} {w:World} {H:Hp} {h:Heap} {a:Addr} {o:HO}
theorem ObjOk.ex (x:ObjOk P w H h a o):∃ob,h.get? a=some ob:=by
 induction o with
 | lst xs=>obtain ⟨_,_,_,_,e⟩:=x;exact ⟨_,e⟩
 | tup xs=>obtain ⟨_,_,_,o,e,_⟩:=x;exact ⟨_,e⟩
 | dK kvs=>obtain ⟨_,_,_,_,o,_,_,e,_⟩:=x;exact ⟨_,e⟩
 | dT kvs=>obtain ⟨_,_,_,_,o,_,_,e,_⟩:=x;exact ⟨_,e⟩
 | set S n=>obtain ⟨o,_,_,_,e,_⟩:=x;exact ⟨_,e⟩
 | ins C dx fs=>obtain ⟨_,_,_,e,_⟩:=x;exact ⟨_,e⟩
 | own y=>exact x
 | xd fs=>obtain ⟨_,⟨_,_,_,e,_⟩,_⟩:=x;exact ⟨_,e⟩
 | rng lo hi=>obtain ⟨_,_,_,e⟩:=x;exact ⟨_,e⟩
 | frz ob u ih=>exact ⟨_,x.1⟩
 | tbl ps=>exact ⟨_,x⟩
 | met f y=>exact ⟨_,x⟩
 | ext φ=>exact x.2.1
end
def Trc (h₀:Heap) (H':Hp) (a C:Addr) (h:Heap):Prop:=
 H' a=none/\h₀.get? a=none/\∃oe vs T oT ts,h.get? a=some oe/\oe.cls=.ref C/\oe.data=.fields vs/\vs[1]? = some (.ref T)/\T≠a/\h₀.get? T=none/\H' T=none/\h.get? T=some oT/\oT.data=.fields ts/\ts[3]? = some .none
section
variable {M:Model} {A:Around} {E:Value->Shared->Prop} {s:Shared} {base:Heap} {env:Env} {outer:List Env} {L e T:Addr} {oe oT:Obj} {vs ts:Array Value} {Q:Unit->Shared->Prop}
structure Note (fs ex:List Addr) (h h':Heap):Prop where
 keep:∀b o,h.get? b=some o->b ∉ ex->b ∉ fs->h'.get? b=some o
 slot:∀b o,h.get? b=some o->b∈fs->∃sl,h'.get? b=some { o with slots:=sl }
theorem in_frs {l:List Env}:∀env∈l,∀b,env.frame=some b->b∈frs l:=fun env he b hb=>List.mem_filterMap.mpr ⟨env,he,hb⟩
theorem leave_next (hfr:A.frames=some (env::outer)) (hl:s.heap.FunFrames base (env::outer)) (hf:env.frame=some L) (he:s.heap.get? e=some oe) (hd:oe.data=.fields vs) (h1:vs[1]? = some (.ref T)) (hTe:T≠e)
  (hT:s.heap.get? T=some oT) (hdT:oT.data=.fields ts) (h3:ts[3]? = some .none)
  (h:∀h',Note (frs (env::outer)) [e,T] s.heap h'->(∃oe' vs' T' oT' ts',h'.get? e=some oe'/\oe'.cls=oe.cls/\oe'.data=.fields vs'/\vs'[1]? = some (.ref T')/\T'≠e/\(s.heap.get? T'=none\/T'=T)/\h'.get? T'=some oT'/\oT'.data=.fields ts'/\ts'[3]? = some .none)->Q () { s with heap:=h' }) :
  wpAny M A (leaving env (.ref e)) Q E s:=by
 have m1:e∈e::T::frs (env::outer):=List.mem_cons_self
 have m2:T∈e::T::frs (env::outer):=List.mem_cons_of_mem _ List.mem_cons_self
 refine wpAny_leaving_next (base:=PySem.W.hideAll s.heap (e::T::frs (env::outer))) (cls:=oe.cls) hfr (PySem.W.funFrames_hide hl fun env he b hb=>List.mem_cons_of_mem _ (List.mem_cons_of_mem _ (in_frs env he b hb))) hf
  ⟨oe,vs,T,oT,ts,he,rfl,hd,h1,PySem.W.hideAll_none _ m2,hTe,hT,hdT,h3⟩ (fun b o q=>PySem.W.of_hideAll _ q) (PySem.W.hideAll_none _ m1) fun h' ⟨x1,x2,x3,x4⟩=>h h' ⟨fun b o q n1 n2=>?_,fun b o q hb=>?_⟩ ?_
 ·refine x1 b o (PySem.W.hideAll_get _ q fun z=>?_)
  rcases List.mem_cons.mp z with z|z
  ·exact n1 (by rw [z];exact List.mem_cons_self)
  rcases List.mem_cons.mp z with z|z
  ·exact n1 (by rw [z];exact List.mem_cons_of_mem _ List.mem_cons_self)
  exact n2 z
 ·obtain ⟨_,o',q',nf⟩:=hl.mem hb
  rw [q] at q';cases q'
  exact x4 b o q nf
 ·obtain ⟨oe',vs',T',oT',ts',a1,a2,a3,a4,a5,a6,a7,a8,a9⟩:=x3
  refine ⟨oe',vs',T',oT',ts',a1,a2,a3,a4,a6,?_,a7,a8,a9⟩
  by_cases z:T'=T
  ·exact .inr z
  ·refine .inl ?_
   cases q:s.heap.get? T' with
   | none=>rfl
   | some o=>
    have:=PySem.W.hideAll_get (e::T::frs (env::outer)) q fun y=>by
     rcases List.mem_cons.mp y with y|y
     ·exact a6 y
     rcases List.mem_cons.mp y with y|y
     ·exact z y
     obtain ⟨_,o',q',nf⟩:=x2.mem y
     rw [a7] at q';cases q'
     exact nf _ a8
    rw [a5] at this;cases this
theorem leave_first (hfr:A.frames=some (env::outer)) (hl:s.heap.FunFrames base (env::outer)) (hf:env.frame=some L) (he:s.heap.get? e=some oe) (hd:oe.data=.fields vs) (h1:vs[1]? = some .none)
  (h:∀h',Note (frs (env::outer)) [e] s.heap h'->(∃oe' vs' T' oT' ts',h'.get? e=some oe'/\oe'.cls=oe.cls/\oe'.data=.fields vs'/\vs'[1]? = some (.ref T')/\T'≠e/\s.heap.get? T'=none/\h'.get? T'=some oT'/\oT'.data=.fields ts'/\ts'[3]? = some .none)->Q () { s with heap:=h' }) :
  wpAny M A (leaving env (.ref e)) Q E s:=by
 have m1:e∈e::frs (env::outer):=List.mem_cons_self
 refine wpAny_leaving_first (base:=PySem.W.hideAll s.heap (e::frs (env::outer))) hfr (PySem.W.funFrames_hide hl fun env he b hb=>List.mem_cons_of_mem _ (in_frs env he b hb)) hf he
  (fun b o q=>PySem.W.of_hideAll _ q) (PySem.W.hideAll_none _ m1) hd h1 fun h' ⟨x1,x2,x3,x4⟩=>h h' ⟨fun b o q n1 n2=>?_,fun b o q hb=>?_⟩ ?_
 ·refine x1 b o (PySem.W.hideAll_get _ q fun z=>?_)
  rcases List.mem_cons.mp z with z|z
  ·exact n1 (by rw [z];exact List.mem_cons_self)
  exact n2 z
 ·obtain ⟨_,o',q',nf⟩:=hl.mem hb
  rw [q] at q';cases q'
  exact x4 b o q nf
 ·obtain ⟨oe',vs',T',oT',ts',a1,a2,a3,a4,a5,a6,a7,a8,a9⟩:=x3
  refine ⟨oe',vs',T',oT',ts',a1,a2,a3,a4,a6,?_,a7,a8,a9⟩
  cases q:s.heap.get? T' with
  | none=>rfl
  | some o=>
   have:=PySem.W.hideAll_get (e::frs (env::outer)) q fun y=>by
    rcases List.mem_cons.mp y with y|y
    ·exact a6 y
    obtain ⟨_,o',q',nf⟩:=x2.mem y
    rw [a7] at q';cases q'
    exact nf _ a8
   rw [a5] at this;cases this
end
def CXX (P:Program) (w:World):CXT:=fun outer H s E e s'=>∃a C H',e=.ref a/\s'.os=s.os/\AllBare s'.gens/\Un (frs outer) [] H H' s.heap s'.heap/\HOk P w H' s'.heap/\Trc s.heap H' a C s'.heap/\E (.ref C) none H'
section
variable {P:Program} {w:World} {K:PySem.W.Frag} {mg:Str->Option Value} {base:Heap} {N:List Str} {qual:Str} {scope:Scope} {f:Addr} {cd:Value} {A:Around} {outer:List Env} {s₀:Shared} {H₀:Hp} {E₀:XK}
theorem note_un {X:Cx} {pins:List (Addr × Obj)} {σ:St} {H':Hp} {s':Shared} {ex:List Addr} {h':Heap} (hs:X.stack=X.env::X.outer) (hL:X.env.frame=some X.env.locals) (hx:X.ex=[]) (I:Inv X pins σ H' s') (n:Note (frs X.stack) ex s'.heap h')
  (new:∀b∈ex,X.s₀.heap.get? b=none/\H' b=none):Un (frs X.outer) [] X.H₀ H' X.s₀.heap h'/\HOk X.prog X.w H' h':=by
 have ib:=I.base
 have nol:∀b o,X.s₀.heap.get? b=some o->b ∉ frs X.outer->b ∉ frs X.stack:=fun b o q n1 z=>by
  rcases List.mem_cons.mp (I.stkSub b z) with y|y
  ·have l1:=Heap.lt_size q
   have l2:=I.ok.above
   rw [<-y] at l2
   exact absurd (Nat.lt_of_lt_of_le l1 l2) (Nat.lt_irrefl _)
  ·exact n1 y
 have nex:∀b o,X.s₀.heap.get? b=some o->b ∉ ex:=fun b o q z=>by rw [(new b z).1] at q;cases q
 have noe:∀b:Addr,b ∉ X.ex:=fun b z=>by rw [hx] at z;cases z
 refine ⟨⟨fun b o q q0 n1 _=>n.keep b o (ib.keep b o q q0 n1 (noe b)) (nex b o q) (nol b o q n1),fun b o q q0 hb _=>?_,fun b o q q0 _=>ib.free b o q q0 (noe b),fun b o q _=>?_,ib.tups,ib.frzs,ib.tbls⟩,fun a o q=>?_⟩
 ·obtain ⟨sl,e1⟩:=ib.slot b o q q0 hb (noe b)
  have hb':b∈frs X.stack:=by
   rw [hs]
   show b∈List.filterMap _ (X.env::X.outer)
   rw [List.filterMap_cons,hL]
   exact List.mem_cons_of_mem _ hb
  obtain ⟨sl',e2⟩:=n.slot b _ e1 hb'
  exact ⟨sl',e2⟩
 ·obtain ⟨o1,e1⟩:=ib.there b o q (noe b)
  by_cases hb:b∈frs X.stack
  ·obtain ⟨sl,e2⟩:=n.slot b o1 e1 hb
   exact ⟨_,e2⟩
  ·exact ⟨o1,n.keep b o1 e1 (nex b o q) hb⟩
 ·refine (I.hok a o q).stay (fun b u hb e1=>?_) (fun _ z=>z) fun _ _ z=>z
  have ht:H' b≠none:=by
   rcases hb with rfl|hb
   ·rw [q];intro z;cases z
   ·rw [hb];intro z;cases z
  exact n.keep b u e1 (fun z=>ht (new b z).2) fun z=>ht (I.stkFree b z)
theorem pass_leave {pins:List (Addr × Obj)} {σ:St} {H H':Hp} {s s':Shared} {a C:Addr} (I:Inv (cxOf (CXX P w) P w K mg base N qual scope f cd A outer s₀ H₀ E₀) pins σ H s)
  (I':Inv (cxOf (CXX P w) P w K mg base N qual scope f cd A outer s₀ H₀ E₀) pins σ H' s') (t:Trc s.heap H' a C s'.heap) (q:E₀ (.ref C) none H'):(cxOf (CXX P w) P w K mg base N qual scope f cd A outer s₀ H₀ E₀).xe (.ref a) s':=by
 obtain ⟨t0,t1,oe,vs,T,oT,ts,a1,a2,a3,a4,a5,a6,a7,a8,a9,a10⟩:=t
 have old:∀b,s.heap.get? b=none->s₀.heap.get? b=none:=fun b z=>by
  cases y:s₀.heap.get? b with
  | none=>rfl
  | some o=>obtain ⟨_,e⟩:=I.base.there b o y (by intro z;cases z);rw [z] at e;cases e
 have old':∀b,s'.heap.get? b=none->s₀.heap.get? b=none:=fun b z=>by
  cases y:s₀.heap.get? b with
  | none=>rfl
  | some o=>obtain ⟨_,e⟩:=I'.base.there b o y (by intro z;cases z);rw [z] at e;cases e
 refine leave_next (base:=base) I'.ok.frames I'.stack rfl a1 a3 a4 a5 a8 a9 a10 fun h' n ⟨oe',vs',T',oT',ts',b1,b2,b3,b4,b5,b6,b7,b8,b9⟩=>?_
 obtain ⟨un,hok⟩:=note_un rfl rfl rfl I' n (fun b hb=>by
  rcases List.mem_cons.mp hb with rfl|hb
  ·exact ⟨old _ t1,t0⟩
  ·rw [List.mem_singleton.mp hb];exact ⟨old _ a6,a7⟩)
 refine ⟨a,C,H',rfl,I'.os,I'.bare,un,hok,⟨t0,old _ t1,oe',vs',T',oT',ts',b1,by rw [b2,a2],b3,b4,b5,?_,?_,b7,b8,b9⟩,q⟩
 ·rcases b6 with z|z
  ·exact old' _ z
  ·rw [z];exact old _ a6
 ·rcases b6 with z|z
  ·cases y:H' T' with
   | none=>rfl
   | some o=>obtain ⟨_,e⟩:=(I'.hok _ _ y).ex;rw [z] at e;cases e
  ·rw [z];exact a7
theorem raise_leave {pins:List (Addr × Obj)} {σ:St} {H:Hp} {s s':Shared} {a C t:Addr} {args:List Value} (I:Inv (cxOf (CXX P w) P w K mg base N qual scope f cd A outer s₀ H₀ E₀) pins σ H s)
  (m:Heap.MadeExcOf s.heap s'.heap a (.ref C) args) (hs:s'={ s with heap:=s'.heap }) (q:E₀ (.ref C) none H):(cxOf (CXX P w) P w K mg base N qual scope f cd A outer s₀ H₀ E₀).xe (.ref a) s':=by
 obtain ⟨t,a1,a2,a3⟩:=m.there
 have I':Inv (cxOf (CXX P w) P w K mg base N qual scope f cd A outer s₀ H₀ E₀) pins σ H s':=by rw [hs];exact I.kept (t':=s.toks) m.keeps
 have ht:H a=none:=by
  cases y:H a with
  | none=>rfl
  | some o=>obtain ⟨_,e⟩:=(I.hok _ _ y).ex;rw [m.new] at e;cases e
 have old:∀b,s.heap.get? b=none->s₀.heap.get? b=none:=fun b z=>by
  cases y:s₀.heap.get? b with
  | none=>rfl
  | some o=>obtain ⟨_,e⟩:=I.base.there b o y (by intro z;cases z);rw [z] at e;cases e
 have old':∀b,s'.heap.get? b=none->s₀.heap.get? b=none:=fun b z=>by
  cases y:s₀.heap.get? b with
  | none=>rfl
  | some o=>obtain ⟨_,e⟩:=I'.base.there b o y (by intro z;cases z);rw [z] at e;cases e
 refine leave_first (base:=base) I'.ok.frames I'.stack rfl a1 rfl rfl fun h' n ⟨oe',vs',T',oT',ts',b1,b2,b3,b4,b5,b6,b7,b8,b9⟩=>?_
 obtain ⟨un,hok⟩:=note_un rfl rfl rfl I' n (fun b hb=>by rw [List.mem_singleton.mp hb];exact ⟨old _ m.new,ht⟩)
 refine ⟨a,C,H,rfl,I'.os,I'.bare,un,hok,⟨ht,old _ m.new,oe',vs',T',oT',ts',b1,b2,b3,b4,b5,old' _ b6,?_,b7,b8,b9⟩,q⟩
 cases y:H T' with
 | none=>rfl
 | some o=>obtain ⟨_,e⟩:=(I'.hok _ _ y).ex;rw [b6] at e;cases e
end
abbrev vbm:List Value:=[.type "ValueError",.type "Exception",.type "BaseException",.type "object"]
structure XCl (K:PySem.W.Frag) (mg:Str->Option Value) (x:Str) (C:Addr):Prop where
 m:mg x=some (.ref C)
 ok:PySem.W.excIn K C vbm "ValueError.__new__"=true
theorem XCl.own {K:PySem.W.Frag} {mg:Str->Option Value} {x:Str} {C:Addr} {h:Heap} (c:XCl K mg x C) (I:K.In h):OwnCls x C vbm "ValueError.__new__" mg h:=by
 have q:=c.ok
 refine ⟨c.m,?_⟩
 unfold PySem.W.excIn at q
 cases ho:K.lookup C with
 | none=>rw [ho] at q;cases q
 | some o=>
  rw [ho] at q
  obtain ⟨oc,dd,od,sl⟩:=o
  split at q
  ·rename_i dd' cd sl' eo
   cases eo
   obtain ⟨l⟩:=sl
   split at q
   ·rename_i C' bm k0 k1 k2 k3 n k5 em es
    obtain ⟨nm,bs,mro,ns,qn,hd,sn,sb,ab,col,del⟩:=cd
    simp only [Bool.and_eq_true,beq_iff_eq,Bool.not_eq_true'] at q em es
    obtain ⟨⟨⟨⟨⟨e1,e2⟩,e3⟩,e4⟩,e5⟩,e6⟩:=q
    subst em e1 e2 e3 es
    exact ⟨bm,ns,nm,qn,bs,hd,sn,sb,ab,col,dd,k0,k1,k2,k3,k5,_,I _ _ ho,.of_isNs (PySem.W.isNs_of_in I e5),PySem.W.nsMap_none_of_in I e5 e6,PySem.W.tail_of_in I e4⟩
   ·cases q
  ·cases q
section
variable {X:Cx} {CX:CXT} {k:Nat} {f:Addr} {fd:FuncData} {ps:List Str} {sp:Sp} {E:XK} {x:Str} {st:Stmt} {p pos np cpos:Pos} {e:Expr} {es:List Expr} {t:TA} {C:Addr} {G:Addr->St->Hp->Prop}
theorem run_fnX {pins:List (Addr × Obj)} {σ:St} {H:Hp} {s:Shared} {Q:VK} {us:List Value} {vs:List V} (F:FnOk X.prog X.w X.K X.mg X.base CX k f fd ps sp) (hr:Room k X.A) (hb:Binds X.K fd ps []) (I:Inv X pins σ H s) (r:Vals vs us) (h:sp vs H Q E)
  (hx:∀e s',CX X.stack H s E e s'->X.xe e s'):wpAny (model X.prog X.w) X.A (call (.ref f) us) (EP X pins σ Q) X.xe s:=by
 have hl:us.length=ps.length:=by rw [<-r.length];exact F.len _ _ _ _ h
 have hb':=hb s us I.kIn (by rw [List.append_nil];exact hl)
 rw [List.append_nil] at hb'
 refine wpAny_call (codeAny_mono (F.run X.A X.stack s H ⟨us,[]⟩ us vs Q E hr I.env0 hb' r h) fun r s' hq=>?_)
 match r,hq with
 | .error e,hq=>exact hx e s' hq
 | .ok (.ret u),hq=>exact I.after hq
def LnkG (X:Cx) (G:Addr->St->Hp->Prop):Prop:=∀(pins:List (Addr × Obj)) (σ:St) (H:Hp) (s:Shared) (H':Hp) (s':Shared) (a C:Addr),Inv X pins σ H s->Inv X pins σ H' s'->Trc s.heap H' a C s'.heap->G C σ H'->X.xe (.ref a) s'
def LnkR (X:Cx) (G:Addr->St->Hp->Prop):Prop:=∀(pins:List (Addr × Obj)) (σ:St) (H:Hp) (s s':Shared) (a C:Addr) (args:List Value),Inv X pins σ H s->Heap.MadeExcOf s.heap s'.heap a (.ref C) args->s'={ s with heap:=s'.heap }->G C σ H->X.xe (.ref a) s'
def tCallX (sp:Sp) (G:Addr->St->Hp->Prop) (t:TA):TE:=fun σ H Q=>t σ H fun vs H1=>sp vs H1 Q fun cl _ H'=>∃C,cl=.ref C/\G C σ H'
theorem pe_callX (D:DefAt X.K X.mg x st ps) (F:FnOk X.prog X.w X.K X.mg X.base (CXX X.prog X.w) k D.f D.fd ps sp) (hr:Room k X.A) (lk:LnkG X G) (ha:PA X (e::es) t)
  (hg:Gl X x:=by rfl) (hdb:(x == ("__debug__":Str))=false:=by decide) (he:starEach (e::es) X.env=(false,eval e X.env)::starEach es X.env:=by rfl) (hpl:(backTo pos (starEach es X.env)).any (·.1)=false:=by rfl) :
  PE X (.Call (.Name x p) (e::es) [] pos) (tCallX sp G t):=by
 intro pins s σ H Q I h
 refine wpAny_Call_Name_kw (ld_glob I hg D.m ?_ hdb)
 refine PySem.W.callWith_K (h₀:=X.base) I.ok.mod.kin D.F.kp (thn (ha pos pins s σ H _ I h) fun us s1 ⟨vs,H1,I1,r,q⟩=>⟨I1.kIn,?_⟩) he hpl
 refine run_fnX F hr D.b I1 r q fun e s' ⟨a,C,H',e1,e2,e3,un,hok,tr,C',e4,g⟩=>?_
 subst e1
 cases e4
 exact lk pins σ H1 s1 H' s' a C I1 (I1.call' e2 un hok e3 (fun b z=>absurd z (by simp))) tr g
def tRaise (G:Addr->St->Hp->Prop) (C:Addr) (t:TA):TS:=fun _ σ H=>t σ H fun vs H1=>vs.length<=sizeLine/\G C σ H1
theorem ps_raise (c:XCl X.K X.mg x C) (hc:X.calm=true) (lk:LnkR X G) (ha:PA X (e::es) t)
  (hg:Gl X x:=by rfl) (hdb:(x == ("__debug__":Str))=false:=by decide) (he:starEach (e::es) X.env=(false,eval e X.env)::starEach es X.env:=by rfl) (hpl:(backTo cpos (starEach es X.env)).any (·.1)=false:=by rfl) :
  PS X (.Raise (some (.Call (.Name x np) (e::es) [] cpos)) none pos) (tRaise G C t):=by
 intro pins s σ H D I h
 have O:=c.own I.mod.kin
 obtain ⟨m0,n0,nm0,q0,b0,d0,s0,u0,a0,c0,dd0,j0,j1,j2,j3,j5,f0,hC,hN,hni,T⟩:=O.obj
 refine wpAny_Raise_call_subT (bm:=m0) (nm:=nm0) (q:=q0) (N:=n0) (bs:=b0) (hdct:=d0) (sn:=s0) (sub:=u0) (ab:=a0) (col:=c0) (dd:=dd0) (k0:=j0) (k1:=j1) (k2:=j2) (k3:=j3) (k5:=j5) (C:=C) F.excBase_ValueError (mN:=f0)
  (T.hasType F.excBase_ValueError.hasBase) (I.ok.hd hc) (by rw [he];show (false || (backTo cpos (starEach es X.env)).any (·.1))=false;rw [hpl];rfl) hni (ld_glob I hg c.m ⟨rfl,?_⟩ hdb)
 have hw:=ha cpos pins s σ H _ I h
 rw [he] at hw ⊢
 exact Calls.evalArgs_plain (wpAny_mono hw (fun us s2 zq=>by obtain ⟨vs,H2,I2,r,hl,g⟩:=zq;exact ⟨rfl,by rw [<-r.length];exact hl,I2.bk _ _ hC,hN.keeps I2.bk,T.keeps I2.bk,fun h' a m=>lk pins σ H2 s2 _ a C us I2 m rfl g⟩) fun _ _ y=>y)
end
def IsExc (a C:Addr):Heap->Prop:=fun h=>∃o,h.get? a=some o/\o.cls=.ref C/\∃vs,o.data=.fields vs
abbrev XO (a C:Addr):HO:=.ext (IsExc a C)
section
variable {X:Cx} {pins:List (Addr × Obj)} {σ σ':St} {H:Hp} {s:Shared} {h':Heap} {a C:Addr}
theorem cell_slots {c:Addr} {v:Option Value} {h:Heap} {o:Obj} {sl:Array (Option Value)} (z:h.IsCell c v) (e:h.get? c=some o) (e':h'.get? c=some { o with slots:=sl }):h'.IsCell c v:=by
 obtain ⟨o1,h1,h2⟩:=z
 rw [e] at h1;cases h1
 exact ⟨_,e',h2⟩
theorem inv_note {ex:List Addr} {t':Nat} (hs:X.stack=X.env::X.outer) (hL:X.env.frame=some X.env.locals) (hx:X.ex=[]) (I:Inv X pins σ H s) (n:Note (frs X.stack) ex s.heap h')
  (new:∀b∈ex,X.s₀.heap.get? b=none/\H b=none/\b≠X.env.locals/\(∀x c,X.env.cells.lookup x=some c->c≠b)/\∀p∈X.pn++pins,p.1≠b):Inv X pins σ H { s with heap:=h',toks:=t' }:=by
 obtain ⟨un,hok⟩:=note_un hs hL hx I n fun b hb=>⟨(new b hb).1,(new b hb).2.1⟩
 have un':Un X.fs X.ex X.H₀ H X.s₀.heap h':=by rw [hx];exact un
 have up:∀b o,s.heap.get? b=some o->b ∉ ex->∃sl,h'.get? b=some { o with slots:=sl }:=fun b o q nb=>by
  by_cases hb:b∈frs X.stack
  ·exact n.slot b o q hb
  ·exact ⟨o.slots,n.keep b o q nb hb⟩
 obtain ⟨m,hn,hl⟩:=I.loc
 have hn':h'.Ns X.env.locals m:=by
  obtain ⟨o,es,ep,ho,hd,r⟩:=hn
  obtain ⟨sl,e⟩:=up _ o ho fun z=>(new _ z).2.2.1 rfl
  exact ⟨_,es,ep,e,hd,r⟩
 have cl:∀x c v,X.env.cells.lookup x=some c->s.heap.IsCell c v->h'.IsCell c v:=fun x c v e z=>by
  obtain ⟨o,h1,h2⟩:=id z
  obtain ⟨sl,e2⟩:=up c o h1 fun y=>(new _ y).2.2.2.1 x c e rfl
  exact cell_slots z h1 e2
 refine ⟨I.ok,I.os,I.bare,un',⟨m,hn',fun i x v e1 e2 e3=>?_⟩,fun x c e=>?_,I.free,I.freeC,fun p hp=>?_,hok,I.len⟩
 ·obtain ⟨u,r,q⟩:=hl i x v e1 e2 e3
  refine ⟨u,r,?_⟩
  rcases q with q|⟨k,c,e,z⟩
  ·exact .inl q
  ·exact .inr ⟨k,c,e,cl x c _ e z⟩
 ·obtain ⟨v,z⟩:=I.cell x c e
  exact ⟨v,cl x c v e z⟩
 ·obtain ⟨e,nn,ne,nf,d⟩:=I.pin p hp
  refine ⟨n.keep _ _ e (fun z=>(new _ z).2.2.2.2 p hp rfl) fun z=>?_,nn,ne,nf,d⟩
  rcases List.mem_cons.mp (I.stkSub _ z) with y|y
  ·exact ne y
  ·exact nf y
end
section
variable {M:Model} {A:Around} {E:Value->Shared->Prop} {s:Shared} {base:Heap} {env:Env} {outer:List Env} {L e T:Addr} {oe oT:Obj} {vs ts:Array Value} {Q:Unit->Shared->Prop}
theorem note_next (hfr:A.frames=some (env::outer)) (hl:s.heap.FunFrames base (env::outer)) (hf:env.frame=some L) (he:s.heap.get? e=some oe) (hd:oe.data=.fields vs) (h1:vs[1]? = some (.ref T)) (hTe:T≠e)
  (hT:s.heap.get? T=some oT) (hdT:oT.data=.fields ts) (h3:ts[3]? = some .none)
  (h:∀h',Note (frs (env::outer)) [e,T] s.heap h'->(∃oe' vs' T' oT' ts' fl,h'.get? e=some oe'/\oe'.cls=oe.cls/\oe'.data=.fields vs'/\vs'[1]? = some (.ref T')/\T'≠e/\(s.heap.get? T'=none\/T'=T)/\h'.get? T'=some oT'/\oT'.data=.fields ts'/\ts'[3]? = some fl)->Q () { s with heap:=h' }) :
  wpAny M A (noteFrame (.ref e) env) Q E s:=by
 have m1:e∈e::T::frs (env::outer):=List.mem_cons_self
 have m2:T∈e::T::frs (env::outer):=List.mem_cons_of_mem _ List.mem_cons_self
 have h0:∃a0,vs[0]? = some a0:=⟨_,Array.getElem?_eq_getElem (Nat.lt_trans (by decide) (Array.getElem?_eq_some_iff.mp h1).1)⟩
 obtain ⟨a0,h0⟩:=h0
 refine wpAny_noteFrame_onW (base:=PySem.W.hideAll s.heap (e::T::frs (env::outer))) (cls:=oe.cls) (a0:=a0) hfr (PySem.W.funFrames_hide hl fun env he b hb=>List.mem_cons_of_mem _ (List.mem_cons_of_mem _ (in_frs env he b hb))) hf
  ⟨oe,vs,T,oT,ts,he,⟨rfl,h0⟩,hd,h1,PySem.W.hideAll_none _ m2,hTe,hT,hdT,h3⟩ (fun b o q=>PySem.W.of_hideAll _ q) (PySem.W.hideAll_none _ m1) fun h' ⟨x1,x2,x3,x4⟩=>h h' ⟨fun b o q n1 n2=>?_,fun b o q hb=>?_⟩ ?_
 ·refine x1 b o (PySem.W.hideAll_get _ q fun z=>?_)
  rcases List.mem_cons.mp z with z|z
  ·exact n1 (by rw [z];exact List.mem_cons_self)
  rcases List.mem_cons.mp z with z|z
  ·exact n1 (by rw [z];exact List.mem_cons_of_mem _ List.mem_cons_self)
  exact n2 z
 ·obtain ⟨_,o',q',nf⟩:=hl.mem hb
  rw [q] at q';cases q'
  exact x4 b o q nf
 ·obtain ⟨oe',vs',T',oT',ts',a1,a2,a3,a4,a5,a6,a7,a8,a9⟩:=x3
  refine ⟨oe',vs',T',oT',ts',_,a1,a2.1,a3,a4,a6,?_,a7,a8,a9⟩
  by_cases z:T'=T
  ·exact .inr z
  ·refine .inl ?_
   cases q:s.heap.get? T' with
   | none=>rfl
   | some o=>
    have:=PySem.W.hideAll_get (e::T::frs (env::outer)) q fun y=>by
     rcases List.mem_cons.mp y with y|y
     ·exact a6 y
     rcases List.mem_cons.mp y with y|y
     ·exact z y
     obtain ⟨_,o',q',nf⟩:=x2.mem y
     rw [a7] at q';cases q'
     exact nf _ a8
    rw [a5] at this;cases this
theorem flight_none {fl:Value} (he:s.heap.get? e=some oe) (hd:oe.data=.fields vs) (h1:vs[1]? = some (.ref T)) (hT:s.heap.get? T=some oT) (hdT:oT.data=.fields ts) (h3:ts[3]? = some fl)
  (h:∀h',(∀b o,s.heap.get? b=some o->b≠T->h'.get? b=some o)->(∃oT' ts',h'.get? T=some oT'/\oT'.data=.fields ts'/\ts'[3]? = some .none)->Q () { s with heap:=h' }):wpAny M A (setFlight (.ref e) none) Q E s:=by
 have hsz:3<ts.size:=(Array.getElem?_eq_some_iff.mp h3).1
 refine wpAny_setFlight_none he hd h1 hT hdT hsz (h _ (fun b o q nb=>?_) ⟨_,_,Heap.get?_update_self _ hT (Obj.isFreed_of_fields (Obj.data_mapFields hdT _)),Obj.data_mapFields hdT _,by simp [hsz]⟩)
 rw [Heap.get?_update_other _ _ (Ne.symm nb)];exact q
theorem note_one {fs:List Addr} {h h':Heap} (k:∀b o,h.get? b=some o->b≠T->h'.get? b=some o) (nf:T ∉ fs):Note fs [T] h h':=
 ⟨fun b o q n _=>k b o q fun z=>n (by rw [z];exact List.mem_cons_self),fun b o q hb=>⟨o.slots,k b o q fun z=>nf (z▸hb)⟩⟩
end
section
variable {X:Cx}
abbrev Cx.held (X:Cx) (pins:List (Addr × Obj)) (E:Value->Shared->Prop):Cx:={ X with pn:=X.pn++pins,xe:=E }
abbrev Cx.suite (X:Cx) (pins:List (Addr × Obj)) (A:Around):Cx:={ X with pn:=X.pn++pins,xe:=fun _ _=>False,A:=A,calm:=false }
variable {pins:List (Addr × Obj)} {σ:St} {H:Hp} {s:Shared} {E:Value->Shared->Prop} {A:Around}
theorem Inv.held (I:Inv X pins σ H s):Inv (X.held pins E) [] σ H s:=
 ⟨⟨I.ok.mod,I.ok.kind,I.ok.glob,I.ok.blt,I.ok.above,I.ok.inj,I.ok.has,I.ok.cab,I.ok.hd,I.ok.frames,I.ok.stk,I.ok.exf,I.ok.bs,I.ok.bsz,I.ok.noex,I.ok.exfs,I.ok.funs,I.ok.frf⟩,I.os,I.bare,I.base,I.loc,I.cell,I.free,I.freeC,fun p hp=>I.pin p (by rw [List.append_nil] at hp;exact hp),I.hok,I.len⟩
theorem Inv.unheld (I:Inv (X.held pins E) [] σ H s):Inv X pins σ H s:=
 ⟨⟨I.ok.mod,I.ok.kind,I.ok.glob,I.ok.blt,I.ok.above,I.ok.inj,I.ok.has,I.ok.cab,I.ok.hd,I.ok.frames,I.ok.stk,I.ok.exf,I.ok.bs,I.ok.bsz,I.ok.noex,I.ok.exfs,I.ok.funs,I.ok.frf⟩,I.os,I.bare,I.base,I.loc,I.cell,I.free,I.freeC,fun p hp=>I.pin p (by rw [List.append_nil];exact hp),I.hok,I.len⟩
theorem Inv.less {pins':List (Addr × Obj)} (I:Inv X pins' σ H s):Inv X [] σ H s:=
 ⟨I.ok,I.os,I.bare,I.base,I.loc,I.cell,I.free,I.freeC,fun p hp=>I.pin p (by rw [List.append_nil] at hp;exact List.mem_append_left _ hp),I.hok,I.len⟩
theorem Inv.suite (I:Inv X pins σ H s) (hA:A.frames=X.A.frames):Inv (X.suite pins A) [] σ H s:=
 ⟨⟨I.ok.mod,I.ok.kind,I.ok.glob,I.ok.blt,I.ok.above,I.ok.inj,I.ok.has,I.ok.cab,(fun z=>by cases z),hA.trans I.ok.frames,I.ok.stk,I.ok.exf,I.ok.bs,I.ok.bsz,I.ok.noex,I.ok.exfs,I.ok.funs,I.ok.frf⟩,I.os,I.bare,I.base,I.loc,I.cell,I.free,I.freeC,fun p hp=>I.pin p (by rw [List.append_nil] at hp;exact hp),I.hok,I.len⟩
theorem Inv.unsuite (I:Inv (X.suite pins A) [] σ H s) (hd:X.calm=true->X.A.handled=none) (hf:X.A.frames=some X.stack):Inv X pins σ H s:=
 ⟨⟨I.ok.mod,I.ok.kind,I.ok.glob,I.ok.blt,I.ok.above,I.ok.inj,I.ok.has,I.ok.cab,hd,hf,I.ok.stk,I.ok.exf,I.ok.bs,I.ok.bsz,I.ok.noex,I.ok.exfs,I.ok.funs,I.ok.frf⟩,I.os,I.bare,I.base,I.loc,I.cell,I.free,I.freeC,fun p hp=>I.pin p (by rw [List.append_nil];exact hp),I.hok,I.len⟩
end
structure XF (K:PySem.W.Frag) (C:Addr):Prop where
 ok:PySem.W.excIn K C vbm "ValueError.__new__"=true
 ga:PySem.W.findIn K (.ref C) "__getattribute__"=some (some (.builtin "BaseException.__getattribute__"))
 gx:PySem.W.findIn K (.ref C) "__getattr__"=some none
 cl:PySem.W.findIn K (.ref C) "__class__"=some (some (.builtin "object.__class__"))
section
variable {prog:Program} {w:World} {A:Around} {E:Value->Shared->Prop} {h:Heap} {g:Array GenState} {d:Drawn} {t:Nat} {os:OsState} {a C:Addr} {o:Obj} {K:PySem.W.Frag}
theorem xc_get {R:Result->Shared->Prop} (f:XF K C) (I:K.In h) (hx:h.get? a=some o) (hc:o.cls=.ref C) (hq:R (.ok (.ret (.ref C))) ⟨h,g,d,t,os⟩) :
  codeAny (model prog w) A (.call (.builtin "getset_descriptor.__get__") ⟨[.builtin "object.__class__",.ref a,.ref C],[]⟩) R ⟨h,g,d,t,os⟩:=by
 obtain ⟨m0,n0,nm0,q0,b0,d0,s0,u0,a0,c0,dd0,j0,j1,j2,j3,j5,f0,hD,hN,hni,T⟩:=(XCl.own (mg:=fun _=>some (.ref C)) (x:="x") ⟨rfl,f.ok⟩ I).obj
 have gsd:Shared.TypeIs ⟨h,g,d,t,os⟩ (.builtin "object.__class__") "getset_descriptor":=F.typeOf_object_class
 have hcO:(Value.ref C::m0).contains (.type (".".intercalate ("object.__class__".cutAt '.').dropLast))=true:=by
  rw [F.owner_object_class,List.contains_cons,T.hasType (b:=true) (by decide)];rfl
 refine codeAny_call_builtin F.slot_gs_get.plain F.entry_gs_get (F.slot_gs_get.check _ _ _ _ _ _ _ _ gsd (F.args_gs_get _ _ _) ?_)
 repeat (any_goals (first|assumption|(with_reducible refine wpAny_loadPart_at hx ?_;rw [hc])|(with_reducible refine wpAny_isSubtype_exc hD ?_;rw [hcO])|wp_step))
 refine ⟨Code.quiet_builtin _ (by decide +kernel),?_⟩
 refine codeAny_builtin F.entry_object_class ?_
 repeat (any_goals (first|assumption|(with_reducible refine wpAny_loadPart_at hx ?_;rw [hc])|wp_step))
theorem xc_look {n:Str} {r:Option Value} {Q:Option Value->Shared->Prop} (I:K.In h) (e:PySem.W.findIn K (.ref C) n=some r) (hq:Q r ⟨h,g,d,t,os⟩):wpAny (model prog w) A (typeLookup (.ref C) n) Q E ⟨h,g,d,t,os⟩:=
 PySem.W.looks_findIn (M:=model prog w) I e A Q E ⟨h,g,d,t,os⟩ (fun _ _ z=>z) hq
theorem xc_entry {tk:Tok} {Q:Fin->Shared->Prop} (f:XF K C) (I:K.In h) (hx:h.get? a=some o) (hc:o.cls=.ref C) (hq:Q (.done (.ret (.ref C))) ⟨h,g,d,t,os⟩):wpAny (model prog w) A (Builtin.«object.__getattribute__» ⟨[.ref a,.str "__class__" tk],[]⟩) Q E ⟨h,g,d,t,os⟩:=by
 have gsd:Shared.TypeIs ⟨h,g,d,t,os⟩ (.builtin "object.__class__") "getset_descriptor":=F.typeOf_object_class
 have g5:=F.typeOf_object_class;have g6:=F.slot_gs_get.lookup;have g7:=F.slot_gs_set.lookup
 repeat (any_goals (first|assumption|(with_reducible refine wpAny_loadPart_at hx ?_;rw [hc])|with_reducible refine xc_look I f.cl ?_|wp_step))
 refine xc_get f I hx hc ?_
 repeat any_goals first|assumption|wp_step
theorem xc_check {M:Model} {nameV:Value} {Q:Unit->Shared->Prop} (f:XF K C) (I:K.In h) (hx:h.get? a=some o) (hc:o.cls=.ref C) (hq:Q () ⟨h,g,d,t,os⟩) :
  wpAny M A (checkBuiltinCall "BaseException.__getattribute__" ⟨[.ref a,nameV],[]⟩) Q E ⟨h,g,d,t,os⟩:=by
 obtain ⟨m0,n0,nm0,q0,b0,d0,s0,u0,a0,c0,dd0,j0,j1,j2,j3,j5,f0,hD,hN,hni,T⟩:=(XCl.own (mg:=fun _=>some (.ref C)) (x:="x") ⟨rfl,f.ok⟩ I).obj
 have k1:builtinKind "BaseException.__getattribute__"=some .slot:=by decide +kernel
 have k2:splitId "BaseException.__getattribute__"=some ("BaseException","__getattribute__"):=by decide +kernel
 have hcO:(Value.ref C::m0).contains (.type "BaseException")=true:=by rw [List.contains_cons,T.hasType F.excBase_ValueError.hasBase];rfl
 have hargs:=F.args_bexc_ga (.ref a) nameV
 simp only [checkBuiltinCall,k1,k2]
 refine wpAny_bind ?_
 ·unfold isInstance
  repeat (first|(with_reducible refine wpAny_loadPart_at hx ?_;rw [hc])|(with_reducible refine wpAny_isSubtype_exc hD ?_;rw [hcO])|wp_step)
  exact hq
theorem xc_call {tk:Tok} {R:Result->Shared->Prop} (f:XF K C) (I:K.In h) (hx:h.get? a=some o) (hc:o.cls=.ref C) (hq:R (.ok (.ret (.ref C))) ⟨h,g,d,t,os⟩) :
  codeAny (model prog w) A (.call (.builtin "BaseException.__getattribute__") ⟨[.ref a,.str "__class__" tk],[]⟩) R ⟨h,g,d,t,os⟩:=
 codeAny_call_builtin F.attrBase_ValueError.ga.plain F.entry_bexc_ga (xc_check f I hx hc (xc_entry f I hx hc hq))
theorem xc_by {tk:Tok} {Q:Value->Shared->Prop} (f:XF K C) (I:K.In h) (hx:h.get? a=some o) (hc:o.cls=.ref C) (hq:Q (.ref C) ⟨h,g,d,t,os⟩):wpAny (model prog w) A (getAttrBy (.ref a) (.str "__class__" tk) false) Q E ⟨h,g,d,t,os⟩:=by
 have f3:=F.attrBase_ValueError.ga.bind (.ref a)
 have z2:(Value.builtin "BaseException.__getattribute__" == Value.builtin "object.__getattribute__")=false:=by decide +kernel
 have z1:(onTheHeap (Value.ref C) && Value.builtin "BaseException.__getattribute__" == Value.builtin "object.__getattribute__")=false:=by rw [z2];rfl
 repeat (any_goals (first|assumption|(with_reducible refine wpAny_loadPart_at hx ?_;rw [hc])|with_reducible refine xc_look I f.ga ?_|with_reducible refine xc_look I f.gx ?_|wp_step))
 refine xc_call f I hx hc ?_
 repeat any_goals first|assumption|wp_step
theorem xc_attr {Q:Option Value->Shared->Prop} (f:XF K C) (I:K.In h) (hx:h.get? a=some o) (hc:o.cls=.ref C) (hq:Q (some (.ref C)) ⟨h,g,d,t+1,os⟩):wpAny (model prog w) A (getAttr? (.ref a) "__class__") Q E ⟨h,g,d,t,os⟩:=by
 unfold getAttr? getAttrBy?
 repeat (any_goals (first|assumption|with_reducible apply xc_by f I hx hc|wp_step))
end
theorem kitx_exc {K:PySem.W.Frag} {a C:Addr} (f:XF K C):PySem.W.KitX K (.ref a) (.ref C) (IsExc a C) where
 ty:=fun M h _ ⟨o,h1,h2,_⟩=>h2▸(PySem.W.Looks.ld h1).andThen .now
 it:=fun M h I _=>by
  obtain ⟨m0,n0,nm0,q0,b0,d0,s0,u0,a0,c0,dd0,j0,j1,j2,j3,j5,f0,hD,_⟩:=(XCl.own (mg:=fun _=>some (.ref C)) (x:="x") ⟨rfl,f.ok⟩ I).obj
  intro A' Q' E' s' k q
  unfold isType loadHead
  exact wpAny_bind (wpAny_loadPart (k _ _ hD) (wpAny_pure q))
 ne:=fun h tp dd its n sl I htp=>by
  obtain ⟨m0,n0,nm0,q0,b0,d0,s0,u0,a0,c0,dd0,j0,j1,j2,j3,j5,f0,hD,_⟩:=(XCl.own (mg:=fun _=>some (.ref C)) (x:="x") ⟨rfl,f.ok⟩ I).obj
  refine Bool.eq_false_iff.mpr fun q=>?_
  have e:C=tp:=Value.ref.inj (beq_iff_eq.mp q)
  subst e
  rw [hD] at htp
  have:=congrArg (fun o=>o.map (·.cls)) htp
  simp at this
 ca:=fun {_ _ _ _ _ s} I ⟨o,h1,h2,_⟩ k=>by obtain ⟨h,g,d,t,os⟩:=s;exact xc_attr f I h1 h2 k
section
variable {prog:Program} {w:World} {A:Around} {E:Value->Shared->Prop} {h:Heap} {g:Array GenState} {d:Drawn} {t:Nat} {os:OsState} {a:Addr} {o:Obj}
theorem xb_get {R:Result->Shared->Prop} (hx:h.get? a=some o) (hc:o.cls=.type "ValueError") (hq:R (.ok (.ret (.type "ValueError"))) ⟨h,g,d,t,os⟩) :
  codeAny (model prog w) A (.call (.builtin "getset_descriptor.__get__") ⟨[.builtin "object.__class__",.ref a,.type "ValueError"],[]⟩) R ⟨h,g,d,t,os⟩:=by
 have ty:Shared.TypeIs ⟨h,g,d,t,os⟩ (.ref a) "ValueError":=⟨_,hx,hc⟩
 have gsd:Shared.TypeIs ⟨h,g,d,t,os⟩ (.builtin "object.__class__") "getset_descriptor":=F.typeOf_object_class
 have so:isSubtype (.type "ValueError") (.type (".".intercalate ("object.__class__".cutAt '.').dropLast))=pure true:=by rw [F.owner_object_class,isSubtype_type];kernel_rfl
 refine codeAny_call_builtin F.slot_gs_get.plain F.entry_gs_get (F.slot_gs_get.check _ _ _ _ _ _ _ _ gsd (F.args_gs_get _ _ _) ?_)
 repeat any_goals first|assumption|wp_step
 refine ⟨Code.quiet_builtin _ (by decide +kernel),?_⟩
 refine codeAny_builtin F.entry_object_class ?_
 repeat any_goals first|assumption|wp_step
theorem xb_entry {tk:Tok} {Q:Fin->Shared->Prop} (hx:h.get? a=some o) (hc:o.cls=.type "ValueError") (hq:Q (.done (.ret (.type "ValueError"))) ⟨h,g,d,t,os⟩):wpAny (model prog w) A (Builtin.«object.__getattribute__» ⟨[.ref a,.str "__class__" tk],[]⟩) Q E ⟨h,g,d,t,os⟩:=by
 have ty:Shared.TypeIs ⟨h,g,d,t,os⟩ (.ref a) "ValueError":=⟨_,hx,hc⟩
 have gsd:Shared.TypeIs ⟨h,g,d,t,os⟩ (.builtin "object.__class__") "getset_descriptor":=F.typeOf_object_class
 have g4:typeLookup (.type "ValueError") "__class__"=pure (some (.builtin "object.__class__")):=by rw [typeLookup_type,builtinLookup_eq_fast];kernel_rfl
 have g5:=F.typeOf_object_class;have g6:=F.slot_gs_get.lookup;have g7:=F.slot_gs_set.lookup
 repeat any_goals first|assumption|wp_step
 refine xb_get hx hc ?_
 repeat any_goals first|assumption|wp_step
theorem xb_call {tk:Tok} {R:Result->Shared->Prop} (hx:h.get? a=some o) (hc:o.cls=.type "ValueError") (hq:R (.ok (.ret (.type "ValueError"))) ⟨h,g,d,t,os⟩) :
  codeAny (model prog w) A (.call (.builtin "BaseException.__getattribute__") ⟨[.ref a,.str "__class__" tk],[]⟩) R ⟨h,g,d,t,os⟩:=
 codeAny_call_builtin F.excAttr_ValueError.ga.plain F.entry_bexc_ga (F.excAttr_ValueError.ga.check _ _ _ _ _ _ _ _ (show Shared.TypeIs ⟨h,g,d,t,os⟩ (.ref a) "ValueError" from ⟨_,hx,hc⟩) (F.args_bexc_ga _ _) (xb_entry hx hc hq))
theorem xb_by {tk:Tok} {Q:Value->Shared->Prop} (hx:h.get? a=some o) (hc:o.cls=.type "ValueError") (hq:Q (.type "ValueError") ⟨h,g,d,t,os⟩):wpAny (model prog w) A (getAttrBy (.ref a) (.str "__class__" tk) false) Q E ⟨h,g,d,t,os⟩:=by
 have ty:Shared.TypeIs ⟨h,g,d,t,os⟩ (.ref a) "ValueError":=⟨_,hx,hc⟩
 have g2:=F.excAttr_ValueError.ga.lookup;have g3:=F.excAttr_ValueError.ga.bind (.ref a)
 repeat any_goals first|assumption|wp_step
 refine xb_call hx hc ?_
 repeat any_goals first|assumption|wp_step
theorem xb_attr {Q:Option Value->Shared->Prop} (hx:h.get? a=some o) (hc:o.cls=.type "ValueError") (hq:Q (some (.type "ValueError")) ⟨h,g,d,t+1,os⟩):wpAny (model prog w) A (getAttr? (.ref a) "__class__") Q E ⟨h,g,d,t,os⟩:=by
 unfold getAttr? getAttrBy?
 repeat any_goals first|assumption|with_reducible apply xb_by hx hc|wp_step
end
theorem kitx_exb {K:PySem.W.Frag} {a:Addr}:PySem.W.KitX K (.ref a) (.type "ValueError") (PySem.W.KitAt a "ValueError"):=
 PySem.W.kitx_of PySem.W.kitAt_ty fun {_ _ _ _ _ s} ⟨o,h1,h2⟩ k=>by obtain ⟨h,g,d,t,os⟩:=s;exact xb_attr h1 h2 k
abbrev XB (a:Addr):HO:=.ext (PySem.W.KitAt a "ValueError")
section
variable {X:Cx} {σ:St} {H:Hp}
def TyX (K:PySem.W.Frag) (H:Hp) (v:V) (t:Value):Prop:=TyOf K H v t\/∃a Cl,v=.ref a/\(H a=some (XO a Cl)/\t=.ref Cl/\XF K Cl\/H a=some (XB a)/\t=.type "ValueError")
theorem ty_kit {pins:List (Addr × Obj)} {s:Shared} {v:V} {u t:Value} (I:Inv X pins σ H s) (rx:RelV v u) (ty:TyX X.K H v t):∃φ:Heap->Prop,PySem.W.KitX X.K u t φ/\φ s.heap/\u≠.builtin "__main__.__loader__#opaque":=by
 rcases ty with ty|⟨a,Cl,rfl,⟨ha,rfl,xf⟩|⟨ha,rfl⟩⟩
 ·cases ty with
  | non=>cases (show u=Value.none from rx);exact ⟨_,PySem.W.kitx_none,trivial,fun z=>nomatch z⟩
  | bl y=>cases (show u=Value.bool y from rx);exact ⟨_,PySem.W.kitx_bool,trivial,fun z=>nomatch z⟩
  | int i=>obtain ⟨_,q⟩:=(show ∃t,u=Value.int i t from rx);cases q;exact ⟨_,PySem.W.kitx_int,trivial,fun z=>nomatch z⟩
  | str y=>obtain ⟨_,q⟩:=(show ∃t,u=Value.str y t from rx);cases q;exact ⟨_,PySem.W.kitx_str,trivial,fun z=>nomatch z⟩
  | flt y=>obtain ⟨_,q⟩:=(show ∃t,u=Value.float y t from rx);cases q;exact ⟨_,PySem.W.kitx_float,trivial,fun z=>nomatch z⟩
  | @lst a xs ea=>
   cases (show u=Value.ref a from rx)
   obtain ⟨_,_,n,_,h1⟩:=(show ObjOk X.prog X.w H s.heap a (.lst xs) from I.hok a _ ea)
   exact ⟨_,PySem.W.kitx_list,⟨_,h1,rfl⟩,fun z=>nomatch z⟩
  | @frz a ob xs ea=>
   cases (show u=Value.ref a from rx)
   obtain ⟨_,_,_,n,_,h1⟩:=(show ObjOk X.prog X.w H s.heap a (.frz ob (.lst xs)) from I.hok a _ ea)
   exact ⟨_,PySem.W.kitx_list,⟨_,h1,rfl⟩,fun z=>nomatch z⟩
  | @tup a xs ea=>
   cases (show u=Value.ref a from rx)
   obtain ⟨_,_,_,o,h1,h2,_⟩:=(show ObjOk X.prog X.w H s.heap a (.tup xs) from I.hok a _ ea)
   exact ⟨_,PySem.W.kitx_tuple,⟨o,h1,h2⟩,fun z=>nomatch z⟩
  | @dK a kvs ea=>
   cases (show u=Value.ref a from rx)
   obtain ⟨_,_,vs,_,o,es,ep,h1,h2,_⟩:=(show ObjOk X.prog X.w H s.heap a (.dK kvs) from I.hok a _ ea)
   exact ⟨_,PySem.W.kitx_dict,⟨o,h1,h2.1⟩,fun z=>nomatch z⟩
  | @dT a kvs ea=>
   cases (show u=Value.ref a from rx)
   obtain ⟨_,_,xs,_,o,es,ep,h1,h2,_⟩:=(show ObjOk X.prog X.w H s.heap a (.dT kvs) from I.hok a _ ea)
   exact ⟨_,PySem.W.kitx_dict,⟨o,h1,h2.1⟩,fun z=>nomatch z⟩
  | @ins a C dx fs ea cl ha hn htk hm=>
   cases (show u=Value.ref a from rx)
   obtain ⟨mA,O,_⟩:=ins_get I.hok ea
   obtain ⟨od,J,_⟩:=O.look
   exact ⟨_,PySem.W.kitx_own (cl.get _) cl.hd ha hn htk hm,J,fun z=>nomatch z⟩
 ·cases (show u=Value.ref a from rx)
  obtain ⟨φ,_,_⟩:=(show ObjOk X.prog X.w H s.heap a (XO a Cl) from I.hok a _ ha)
  exact ⟨_,kitx_exc xf,φ,fun z=>nomatch z⟩
 ·cases (show u=Value.ref a from rx)
  obtain ⟨φ,_,_⟩:=(show ObjOk X.prog X.w H s.heap a (XB a) from I.hok a _ ha)
  exact ⟨_,kitx_exb,φ,fun z=>nomatch z⟩
theorem isX_ok {pins:List (Addr × Obj)} {s:Shared} {A:Around} {E:Value->Shared->Prop} {Q:Value->Shared->Prop} {v:V} {u t c:Value} {k:Bool} (I:Inv X pins σ H s) (rx:RelV v u) (ty:TyX X.K H v t) (e:PySem.W.kitOne X.K t c=some k)
  (h:∀tk,Q (.bool k) { s with toks:=tk }):wpAny (model X.prog X.w) A (call (.builtin "isinstance") [u,c]) Q E s:=by
 obtain ⟨φ,Z,hz,ne⟩:=ty_kit I rx ty
 exact PySem.W.kia_one Z I.kIn hz e ne h
def rIsX (K:PySem.W.Frag):List V->Hp->VK->Prop:=fun vs H Q=>∃v y c t k,vs=[v,y]/\(∀u,RelV y u->u=c)/\TyX K H v t/\PySem.W.kitOne K t c=some k/\Q (.bl k) H
theorem call_isX {K:PySem.W.Frag} (hK:X.K=K):CallR X (.builtin "isinstance") (rIsX K):=fun pins s σ H vs us Q I r zq=>by
 obtain ⟨v,y,c,t,k,e,hc,ty,ek,q⟩:=zq
 subst e
 cases r with
 | cons r1 r2=>
  cases r2 with
  | cons r3 r4=>
   cases r4
   rw [hc _ r3]
   rw [<-hK] at ty ek
   exact isX_ok I r1 ty ek fun tk=>⟨.bl k,H,I.tok tk,rfl,q⟩
end
inductive D where
 | non|bl (b:Bool)|int (i:Int)|str (x:Str)|lst (xs:List D)|tup (xs:List D)|atom (v:V)|scr (ns:List Int)|dic (ks:List Key) (ds:List D)|exc (C:Addr)|exb
mutual
inductive Rep (K:PySem.W.Frag) (F:Hp):D->V->Prop
 | non:Rep K F .non .non
 | bl (b:Bool):Rep K F (.bl b) (.bl b)
 | int (i:Int):Rep K F (.int i) (.int i)
 | str (x:Str):Rep K F (.str x) (.str x)
 | atom (v:V):Rep K F (.atom v) v
 | lst {a:Addr} {vs:List V} {ds:List D}:F a=some (.lst vs)->RepL K F ds vs->Rep K F (.lst ds) (.ref a)
 | tup {a:Addr} {vs:List V} {ds:List D}:F a=some (.tup vs)->RepL K F ds vs->Rep K F (.tup ds) (.ref a)
 | scr {a:Addr} {ns:List Int}:SqL K F a (ns.map V.int)->Rep K F (.scr ns) (.ref a)
 | dic {a:Addr} {ks:List Key} {vs:List V} {ds:List D}:F a=some (.dK (ks.zip vs))->ks.length=vs.length->RepL K F ds vs->Rep K F (.dic ks ds) (.ref a)
 | exc {a C:Addr}:F a=some (XO a C)->Rep K F (.exc C) (.ref a)
 | exb {a:Addr}:F a=some (XB a)->Rep K F .exb (.ref a)
inductive RepL (K:PySem.W.Frag) (F:Hp):List D->List V->Prop
 | nil:RepL K F [] []
 | cons {d:D} {v:V} {ds:List D} {vs:List V}:Rep K F d v->RepL K F ds vs->RepL K F (d::ds) (v::vs)
end
mutual
theorem Rep.mono {K:PySem.W.Frag} {F F':Hp} (h:Same F F'):∀{d:D} {v:V},Rep K F d v->Rep K F' d v
 | _,_,.non=>.non
 | _,_,.bl b=>.bl b
 | _,_,.int i=>.int i
 | _,_,.str x=>.str x
 | _,_,.atom v=>.atom v
 | _,_,.lst q r=>.lst (h _ _ q) (RepL.mono h r)
 | _,_,.tup q r=>.tup (h _ _ q) (RepL.mono h r)
 | _,_,.scr q=>.scr (h.seq q)
 | _,_,.dic q l r=>.dic (h _ _ q) l (RepL.mono h r)
 | _,_,.exc q=>.exc (h _ _ q)
 | _,_,.exb q=>.exb (h _ _ q)
theorem RepL.mono {K:PySem.W.Frag} {F F':Hp} (h:Same F F'):∀{ds:List D} {vs:List V},RepL K F ds vs->RepL K F' ds vs
 | _,_,.nil=>.nil
 | _,_,.cons r t=>.cons (Rep.mono h r) (RepL.mono h t)
end
section
variable {K:PySem.W.Frag} {F:Hp}
theorem RepL.length:∀{ds:List D} {vs:List V},RepL K F ds vs->ds.length=vs.length
 | _,_,.nil=>rfl
 | _,_,.cons _ t=>by rw [List.length_cons,List.length_cons,RepL.length t]
theorem RepL.get:∀{ds:List D} {vs:List V} {i:Nat} {d:D},RepL K F ds vs->ds[i]? = some d->∃v,vs[i]? = some v/\Rep K F d v
 | _,_,_,_,.nil,e=>by simp at e
 | _,_,0,_,.cons r _,e=>by simp at e;subst e;exact ⟨_,rfl,r⟩
 | _,_,i+1,d,.cons _ t,e=>by
  obtain ⟨u,h1,h2⟩:=RepL.get (i:=i) (d:=d) t (by simpa using e)
  exact ⟨u,by simpa using h1,h2⟩
theorem RepL.set {d:D} {v:V} (r:Rep K F d v):∀{ds:List D} {vs:List V} (i:Nat),RepL K F ds vs->RepL K F (ds.set i d) (vs.set i v)
 | _,_,_,.nil=>.nil
 | _,_,0,.cons _ t=>.cons r t
 | _,_,i+1,.cons q t=>.cons q (RepL.set r i t)
theorem RepL.append:∀{ds es:List D} {vs us:List V},RepL K F ds vs->RepL K F es us->RepL K F (ds++es) (vs++us)
 | _,_,_,_,.nil,s=>s
 | _,_,_,_,.cons r t,s=>.cons r (RepL.append t s)
theorem RepL.take:∀{ds:List D} {vs:List V} (n:Nat),RepL K F ds vs->RepL K F (ds.take n) (vs.take n)
 | _,_,0,_=>.nil
 | _,_,_+1,.nil=>.nil
 | _,_,n+1,.cons r t=>.cons r (RepL.take n t)
theorem RepL.drop:∀{ds:List D} {vs:List V} (n:Nat),RepL K F ds vs->RepL K F (ds.drop n) (vs.drop n)
 | _,_,0,r=>r
 | _,_,_+1,.nil=>.nil
 | _,_,n+1,.cons _ t=>RepL.drop n t
theorem RepL.reverse:∀{ds:List D} {vs:List V},RepL K F ds vs->RepL K F ds.reverse vs.reverse
 | _,_,.nil=>.nil
 | _,_,.cons r t=>by
  rw [List.reverse_cons,List.reverse_cons]
  exact (RepL.reverse t).append (.cons r .nil)
theorem RepL.rep {ds:List D} {vs:List V} (r:RepL K F ds vs):∀n:Nat,RepL K F (List.replicate n ds).flatten (List.replicate n vs).flatten
 | 0=>.nil
 | n+1=>by
  rw [List.replicate_succ,List.replicate_succ,List.flatten_cons,List.flatten_cons]
  exact r.append (RepL.rep r n)
theorem RepL.ints:∀{ns:List Int} {vs:List V},RepL K F (ns.map D.int) vs->vs=ns.map V.int
 | [],_,.nil=>rfl
 | _::r,_,.cons q t=>by
  cases q
  rw [List.map_cons,RepL.ints (ns:=r) t]
theorem RepL.of_ints:∀(ns:List Int),RepL K F (ns.map D.int) (ns.map V.int)
 | []=>.nil
 | n::r=>.cons (.int n) (RepL.of_ints r)
end
inductive Sl where
 | d (x:D)|own (xs:List D)|bor (xs:List D)
abbrev PSt:=List (Option Sl)
inductive Ev where
 | fz (x:D)|ow (i:Nat)
def Sl.val:Sl->D
 | .d x=>x
 | .own xs=>.lst xs
 | .bor xs=>.lst xs
def Sl.put (ys:List D):Sl->Sl
 | .own _=>.own ys
 | .bor _=>.bor ys
 | .d x=>.d x
def Sl.mu:Sl->Bool
 | .d _=>false
 | .own _=>true
 | .bor _=>true
def Sl.ev (i:Nat):Sl->Ev
 | .d x=>.fz x
 | .own _=>.ow i
 | .bor _=>.ow i
def lk (p:PSt):Ev->D
 | .fz x=>x
 | .ow i=>match p[i]? with
  | some (some s)=>s.val
  | _=>.non
inductive Rt where
 | rd (x:D)|ro (xs:List D)
def Rt.val:Rt->D
 | .rd x=>x
 | .ro xs=>.lst xs
def Rt.sl:Rt->Sl
 | .rd x=>.d x
 | .ro xs=>.own xs
structure Pc where
 K:PySem.W.Frag
 F0:Hp
 H0:Hp
 bs:List (Nat × Addr)
def SlRel (C:Pc) (F H:Hp):Sl->V->Prop
 | .d x,v=>Rep C.K F x v
 | .own xs,v=>∃a vs,v=.ref a/\F a=none/\C.H0 a=none/\H a=some (.lst vs)/\RepL C.K F xs vs
 | .bor xs,v=>∃a vs,v=.ref a/\F a=none/\(∃q∈C.bs,q.2=a)/\H a=some (.lst vs)/\RepL C.K F xs vs
structure RS (C:Pc) (p:PSt) (σ:St) (F H:Hp):Prop where
 sub:Same F H
 ext:Same C.F0 F
 new:∀a o,F a=some o->C.F0 a=some o\/C.H0 a=none\/∃xs,o=.tup xs
 keep:∀a o,C.H0 a=some o->(∀q∈C.bs,q.2≠a)->H a=some o
 grow:∀a,C.H0 a≠none->H a≠none
 len:p.length=σ.length
 sl:∀(i:Nat) (s:Sl),p[i]? = some (some s)->∃v,σ[i]? = some (some v)/\SlRel C F H s v
 apart:∀(i j:Nat) (s s':Sl) (a:Addr),i≠j->p[i]? = some (some s)->s.mu=true->p[j]? = some (some s')->s'.mu=true->σ[i]? = some (some (.ref a))->σ[j]? = some (some (.ref a))->False
 pin:∀q∈C.bs,σ[q.1]? = some (some (.ref q.2))/\∃xs,p[q.1]? = some (some (.bor xs))
def Shp (p p1:PSt):Prop:=p1.length=p.length/\∀(i:Nat) (s:Sl),p[i]? = some (some s)->s.mu=true->∃s1,p1[i]? = some (some s1)/\s1.mu=true
theorem Shp.refl (p:PSt):Shp p p:=⟨rfl,fun _ s h m=>⟨s,h,m⟩⟩
theorem Shp.trans {p p1 p2:PSt} (a:Shp p p1) (b:Shp p1 p2):Shp p p2:=⟨b.1.trans a.1,fun i s h m=>let ⟨s1,h1,m1⟩:=a.2 i s h m;b.2 i s1 h1 m1⟩
def EvR (K:PySem.W.Frag) (p:PSt) (σ:St) (F:Hp):Ev->V->Prop
 | .fz x,v=>Rep K F x v
 | .ow i,v=>(∃s,p[i]? = some (some s)/\s.mu=true)/\σ[i]? = some (some v)
theorem EvR.mono {K:PySem.W.Frag} {p p1:PSt} {σ:St} {F F1:Hp} {e:Ev} {v:V} (h:EvR K p σ F e v) (s:Same F F1) (sh:Shp p p1):EvR K p1 σ F1 e v:=by
 cases e with
 | fz x=>exact Rep.mono s h
 | ow i=>exact ⟨let ⟨⟨s,h1,m⟩,_⟩:=h;sh.2 i s h1 m,h.2⟩
abbrev TQ:=PSt->(Ev->PSt->Prop)->Prop
abbrev TN:=PSt->(Rt->PSt->Prop)->Prop
abbrev TTQ:=PSt->(Bool->PSt->Prop)->Prop
abbrev TAQ:=PSt->(List Ev->PSt->Prop)->Prop
def Mine (p:PSt) (σ:St) (a:Addr):Prop:=∀(i:Nat) (s:Sl),p[i]? = some (some s)->s.mu=true->σ[i]?≠some (some (.ref a))
def RtR (C:Pc) (p:PSt) (σ:St) (F H:Hp):Rt->V->Prop
 | .rd x,v=>Rep C.K F x v
 | .ro xs,v=>∃a vs,v=.ref a/\F a=none/\C.H0 a=none/\H a=some (.lst vs)/\RepL C.K F xs vs/\Mine p σ a
def XQ (C:Pc) (p:PSt) (σ:St) (F:Hp) (R:Ev->PSt->Prop) (v:V) (H1:Hp):Prop:=∃e p1 F1,RS C p1 σ F1 H1/\Same F F1/\Shp p p1/\EvR C.K p1 σ F1 e v/\R e p1
def XN (C:Pc) (p:PSt) (σ:St) (F:Hp) (R:Rt->PSt->Prop) (v:V) (H1:Hp):Prop:=∃r p1 F1,RS C p1 σ F1 H1/\Same F F1/\Shp p p1/\RtR C p1 σ F1 H1 r v/\R r p1
def XT (C:Pc) (p:PSt) (σ:St) (F:Hp) (R:Bool->PSt->Prop) (b:Bool) (H1:Hp):Prop:=∃p1 F1,RS C p1 σ F1 H1/\Same F F1/\Shp p p1/\R b p1
inductive EvRs (K:PySem.W.Frag) (p:PSt) (σ:St) (F:Hp):List Ev->List V->Prop
 | nil:EvRs K p σ F [] []
 | cons {e v es vs}:EvR K p σ F e v->EvRs K p σ F es vs->EvRs K p σ F (e::es) (v::vs)
def XA (C:Pc) (p:PSt) (σ:St) (F:Hp) (R:List Ev->PSt->Prop) (vs:List V) (H1:Hp):Prop:=∃es p1 F1,RS C p1 σ F1 H1/\Same F F1/\Shp p p1/\EvRs C.K p1 σ F1 es vs/\R es p1
def Up (C:Pc) (t:TQ):TE:=fun σ H Q=>∃p F R,RS C p σ F H/\t p R/\∀v H1,XQ C p σ F R v H1->Q v H1
def UpN (C:Pc) (t:TN):TE:=fun σ H Q=>∃p F R,RS C p σ F H/\t p R/\∀v H1,XN C p σ F R v H1->Q v H1
def UpT (C:Pc) (t:TTQ):TT:=fun σ H Q=>∃p F R,RS C p σ F H/\t p R/\∀b H1,XT C p σ F R b H1->Q b H1
def UpA (C:Pc) (t:TAQ):TA:=fun σ H Q=>∃p F R,RS C p σ F H/\t p R/\∀vs H1,XA C p σ F R vs H1->Q vs H1
section
variable {X:Cx} {C:Pc} {p:PSt} {σ:St} {F H:Hp}
theorem QE.mk {e:Expr} {t:TE} {t':TQ} (h:PE X e t) (hi:∀p σ F H R,RS C p σ F H->t' p R->t σ H (XQ C p σ F R)):PE X e (Up C t'):=fun pins s σ H Q I zq=>by
 obtain ⟨p,F,R,rs,ht,hq⟩:=zq
 exact thn (h pins s σ H _ I (hi p σ F H R rs ht)) fun _ _ zq=>by obtain ⟨v,H1,I1,r1,q1⟩:=zq;exact ⟨v,H1,I1,r1,hq v H1 q1⟩
theorem QN.mk {e:Expr} {t:TE} {t':TN} (h:PE X e t) (hi:∀p σ F H R,RS C p σ F H->t' p R->t σ H (XN C p σ F R)):PE X e (UpN C t'):=fun pins s σ H Q I zq=>by
 obtain ⟨p,F,R,rs,ht,hq⟩:=zq
 exact thn (h pins s σ H _ I (hi p σ F H R rs ht)) fun _ _ zq=>by obtain ⟨v,H1,I1,r1,q1⟩:=zq;exact ⟨v,H1,I1,r1,hq v H1 q1⟩
theorem QT.mk {e:Expr} {t:TT} {t':TTQ} (h:PT X e t) (hi:∀p σ F H R,RS C p σ F H->t' p R->t σ H (XT C p σ F R)):PT X e (UpT C t'):=fun pins s σ H Q I zq=>by
 obtain ⟨p,F,R,rs,ht,hq⟩:=zq
 exact thn (h pins s σ H _ I (hi p σ F H R rs ht)) fun _ _ zq=>by obtain ⟨H1,I1,q1⟩:=zq;exact ⟨H1,I1,hq _ H1 q1⟩
theorem QW.mk {e:Expr} {t:TT} {t':TTQ} (h:PW X e t) (hi:∀p σ F H R,RS C p σ F H->t' p R->t σ H (XT C p σ F R)):PW X e (UpT C t'):=fun wh pins s σ H Q I zq=>by
 obtain ⟨p,F,R,rs,ht,hq⟩:=zq
 exact thn (h wh pins s σ H _ I (hi p σ F H R rs ht)) fun _ _ zq=>by obtain ⟨H1,I1,q1⟩:=zq;exact ⟨H1,I1,hq _ H1 q1⟩
theorem QA.mk {es:List Expr} {t:TA} {t':TAQ} (h:PA X es t) (hi:∀p σ F H R,RS C p σ F H->t' p R->t σ H (XA C p σ F R)):PA X es (UpA C t'):=fun pos pins s σ H Q I zq=>by
 obtain ⟨p,F,R,rs,ht,hq⟩:=zq
 exact thn (h pos pins s σ H _ I (hi p σ F H R rs ht)) fun _ _ zq=>by obtain ⟨vs,H1,I1,r1,q1⟩:=zq;exact ⟨vs,H1,I1,r1,hq vs H1 q1⟩
theorem up1 {ta:TQ} {R1:Ev->PSt->Prop} {Q:V->Hp->Prop} (rs:RS C p σ F H) (ht:ta p R1)
  (k:∀e p1 v F1 H1,RS C p1 σ F1 H1->Same F F1->Shp p p1->EvR C.K p1 σ F1 e v->R1 e p1->Q v H1):Up C ta σ H Q:=
 ⟨p,F,R1,rs,ht,fun v H1 zq=>by obtain ⟨e,p1,F1,rs1,s1,sh,er,q⟩:=zq;exact k e p1 v F1 H1 rs1 s1 sh er q⟩
theorem upT1 {ta:TTQ} {R1:Bool->PSt->Prop} {Q:Bool->Hp->Prop} (rs:RS C p σ F H) (ht:ta p R1)
  (k:∀b p1 F1 H1,RS C p1 σ F1 H1->Same F F1->Shp p p1->R1 b p1->Q b H1):UpT C ta σ H Q:=
 ⟨p,F,R1,rs,ht,fun b H1 zq=>by obtain ⟨p1,F1,rs1,s1,sh,q⟩:=zq;exact k b p1 F1 H1 rs1 s1 sh q⟩
theorem upN1 {ta:TN} {R1:Rt->PSt->Prop} {Q:V->Hp->Prop} (rs:RS C p σ F H) (ht:ta p R1)
  (k:∀r p1 v F1 H1,RS C p1 σ F1 H1->Same F F1->Shp p p1->RtR C p1 σ F1 H1 r v->R1 r p1->Q v H1):UpN C ta σ H Q:=
 ⟨p,F,R1,rs,ht,fun v H1 zq=>by obtain ⟨e,p1,F1,rs1,s1,sh,er,q⟩:=zq;exact k e p1 v F1 H1 rs1 s1 sh er q⟩
theorem upA1 {ta:TAQ} {R1:List Ev->PSt->Prop} {Q:List V->Hp->Prop} (rs:RS C p σ F H) (ht:ta p R1)
  (k:∀es p1 vs F1 H1,RS C p1 σ F1 H1->Same F F1->Shp p p1->EvRs C.K p1 σ F1 es vs->R1 es p1->Q vs H1):UpA C ta σ H Q:=
 ⟨p,F,R1,rs,ht,fun v H1 zq=>by obtain ⟨e,p1,F1,rs1,s1,sh,er,q⟩:=zq;exact k e p1 v F1 H1 rs1 s1 sh er q⟩
theorem up2 {ta tb:TQ} {R:Ev->Ev->PSt->Prop} {Q:V->V->Hp->Prop} (rs:RS C p σ F H) (ht:ta p fun e1 p1=>tb p1 fun e2 p2=>R e1 e2 p2)
  (k:∀e1 e2 p1 v1 v2 F1 H1,RS C p1 σ F1 H1->Same F F1->Shp p p1->EvR C.K p1 σ F1 e1 v1->EvR C.K p1 σ F1 e2 v2->R e1 e2 p1->Q v1 v2 H1):Up C ta σ H fun x H1=>Up C tb σ H1 fun y H2=>Q x y H2:=
 up1 rs ht fun e1 p1 v1 F1 H1 rs1 s1 sh1 er1 q1=>up1 rs1 q1 fun e2 p2 v2 F2 H2 rs2 s2 sh2 er2 q2=>
  k e1 e2 p2 v1 v2 F2 H2 rs2 (s1.trans s2) (sh1.trans sh2) (er1.mono s2 sh2) er2 q2
theorem ev_int {e:Ev} {v:V} {i:Int} (er:EvR C.K p σ F e v) (h:lk p e=.int i):v=.int i:=by
 cases e with
 | fz x=>dsimp only [lk] at h;subst h;cases er;rfl
 | ow j=>
  obtain ⟨⟨s,h1,m⟩,_⟩:=er
  dsimp only [lk] at h
  rw [h1] at h
  cases s with
  | d x=>cases m
  | own xs=>cases h
  | bor xs=>cases h
theorem ev_bl {e:Ev} {v:V} {b:Bool} (er:EvR C.K p σ F e v) (h:lk p e=.bl b):v=.bl b:=by
 cases e with
 | fz x=>dsimp only [lk] at h;subst h;cases er;rfl
 | ow j=>
  obtain ⟨⟨s,h1,m⟩,_⟩:=er
  dsimp only [lk] at h
  rw [h1] at h
  cases s with
  | d x=>cases m
  | own xs=>cases h
  | bor xs=>cases h
theorem ev_non {e:Ev} {v:V} (er:EvR C.K p σ F e v) (h:lk p e=.non):v=.non:=by
 cases e with
 | fz x=>dsimp only [lk] at h;subst h;cases er;rfl
 | ow j=>
  obtain ⟨⟨s,h1,m⟩,_⟩:=er
  dsimp only [lk] at h
  rw [h1] at h
  cases s with
  | d x=>cases m
  | own xs=>cases h
  | bor xs=>cases h
theorem ev_str {e:Ev} {v:V} {b:Str} (er:EvR C.K p σ F e v) (h:lk p e=.str b):v=.str b:=by
 cases e with
 | fz x=>dsimp only [lk] at h;subst h;cases er;rfl
 | ow j=>
  obtain ⟨⟨s,h1,m⟩,_⟩:=er
  dsimp only [lk] at h
  rw [h1] at h
  cases s with
  | d x=>cases m
  | own xs=>cases h
  | bor xs=>cases h
theorem ev_atom {e:Ev} {v w:V} (er:EvR C.K p σ F e v) (h:lk p e=.atom w):v=w:=by
 cases e with
 | fz x=>dsimp only [lk] at h;subst h;cases er;rfl
 | ow j=>
  obtain ⟨⟨s,h1,m⟩,_⟩:=er
  dsimp only [lk] at h
  rw [h1] at h
  cases s with
  | d x=>cases m
  | own xs=>cases h
  | bor xs=>cases h
theorem ev_lst {e:Ev} {v:V} {ds:List D} (rs:RS C p σ F H) (er:EvR C.K p σ F e v) (h:lk p e=.lst ds):∃a vs,v=.ref a/\H a=some (.lst vs)/\RepL C.K F ds vs:=by
 cases e with
 | fz x=>
  dsimp only [lk] at h;subst h
  cases er with
  | lst q r=>exact ⟨_,_,rfl,rs.sub _ _ q,r⟩
 | ow j=>
  obtain ⟨⟨s,h1,m⟩,h2⟩:=er
  dsimp only [lk] at h
  rw [h1] at h
  obtain ⟨w,e1,sr⟩:=rs.sl j s h1
  rw [h2] at e1;cases e1
  cases s with
  | d x=>cases m
  | own xs=>
   obtain ⟨a,vs,rfl,_,_,hH,r⟩:=sr
   cases h
   exact ⟨a,vs,rfl,hH,r⟩
  | bor xs=>
   obtain ⟨a,vs,rfl,_,_,hH,r⟩:=sr
   cases h
   exact ⟨a,vs,rfl,hH,r⟩
theorem ev_tup {e:Ev} {v:V} {ds:List D} (rs:RS C p σ F H) (er:EvR C.K p σ F e v) (h:lk p e=.tup ds):∃a vs,v=.ref a/\H a=some (.tup vs)/\RepL C.K F ds vs:=by
 cases e with
 | fz x=>
  dsimp only [lk] at h;subst h
  cases er with
  | tup q r=>exact ⟨_,_,rfl,rs.sub _ _ q,r⟩
 | ow j=>
  obtain ⟨⟨s,h1,m⟩,h2⟩:=er
  dsimp only [lk] at h
  rw [h1] at h
  cases s with
  | d x=>cases m
  | own xs=>cases h
  | bor xs=>cases h
theorem ev_scr {e:Ev} {v:V} {ns:List Int} (rs:RS C p σ F H) (er:EvR C.K p σ F e v) (h:lk p e=.scr ns):∃a,v=.ref a/\SqL C.K H a (ns.map V.int):=by
 cases e with
 | fz x=>
  dsimp only [lk] at h;subst h
  cases er with
  | scr q=>exact ⟨_,rfl,rs.sub.seq q⟩
 | ow j=>
  obtain ⟨⟨s,h1,m⟩,h2⟩:=er
  dsimp only [lk] at h
  rw [h1] at h
  cases s with
  | d x=>cases m
  | own xs=>cases h
  | bor xs=>cases h
theorem ev_exb {e:Ev} {v:V} (rs:RS C p σ F H) (er:EvR C.K p σ F e v) (h:lk p e=.exb):∃a,v=.ref a/\H a=some (XB a):=by
 cases e with
 | fz x=>
  have h:x=.exb:=h
  subst h
  cases (show Rep C.K F .exb v from er) with
  | exb q=>exact ⟨_,rfl,rs.sub _ _ q⟩
 | ow i=>
  exfalso
  unfold lk at h
  cases hp:p[i]? with
  | none=>simp [hp] at h
  | some o=>
   cases o with
   | none=>simp [hp] at h
   | some s=>
    simp [hp] at h
    have m:=er.1
    cases s with
    | d x=>
     obtain ⟨w,h1,h2⟩:=m
     rw [hp] at h1;cases h1
     cases h2
    | own xs=>cases h
    | bor xs=>cases h
theorem ev_dic {e:Ev} {v:V} {ks:List Key} {ds:List D} (rs:RS C p σ F H) (er:EvR C.K p σ F e v) (h:lk p e=.dic ks ds):∃a vs,v=.ref a/\H a=some (.dK (ks.zip vs))/\ks.length=vs.length/\RepL C.K F ds vs:=by
 cases e with
 | fz x=>
  dsimp only [lk] at h;subst h
  cases er with
  | dic q l r=>exact ⟨_,_,rfl,rs.sub _ _ q,l,r⟩
 | ow j=>
  obtain ⟨⟨s,h1,m⟩,h2⟩:=er
  dsimp only [lk] at h
  rw [h1] at h
  cases s with
  | d x=>cases m
  | own xs=>cases h
  | bor xs=>cases h
theorem RS.laid {a:Addr} {o:HO} (rs:RS C p σ F H) (ha:H a=none):RS C p σ F (upd H a o):=by
 have sm:=same_upd ha o
 refine ⟨rs.sub.trans sm,rs.ext,rs.new,fun b u e n=>sm b u (rs.keep b u e n),fun b n e=>?_,rs.len,fun i s e=>?_,rs.apart,rs.pin⟩
 ·have:=rs.grow b n
  cases q:H b with
  | none=>exact this q
  | some u=>rw [sm b u q] at e;cases e
 ·obtain ⟨v,e1,r⟩:=rs.sl i s e
  refine ⟨v,e1,?_⟩
  cases s with
  | d x=>exact r
  | own xs=>obtain ⟨b,vs,z1,z2,z3,z4,z5⟩:=r;exact ⟨b,vs,z1,z2,z3,sm _ _ z4,z5⟩
  | bor xs=>obtain ⟨b,vs,z1,z2,z3,z4,z5⟩:=r;exact ⟨b,vs,z1,z2,z3,sm _ _ z4,z5⟩
theorem RS.free {a:Addr} (rs:RS C p σ F H) (ha:H a=none):F a=none/\C.H0 a=none/\Mine p σ a:=by
 refine ⟨rs.sub.free ha,?_,fun i s e m z=>?_⟩
 ·cases q:C.H0 a with
  | none=>rfl
  | some o=>exact absurd ha (rs.grow a (by rw [q];intro w;cases w))
 ·obtain ⟨v,e1,r⟩:=rs.sl i s e
  rw [z] at e1;cases e1
  cases s with
  | d x=>cases m
  | own xs=>obtain ⟨b,vs,z1,z2,z3,z4,z5⟩:=r;cases z1;rw [ha] at z4;cases z4
  | bor xs=>obtain ⟨b,vs,z1,z2,z3,z4,z5⟩:=r;cases z1;rw [ha] at z4;cases z4
theorem RS.freeze {a:Addr} {o:HO} (rs:RS C p σ F H) (hF:F a=none) (h0:C.H0 a=none) (hH:H a=some o) (mi:Mine p σ a):RS C p σ (upd F a o) H:=by
 have sm:=same_upd hF o
 refine ⟨fun b u e=>?_,rs.ext.trans sm,fun b u e=>?_,rs.keep,rs.grow,rs.len,fun i s e=>?_,rs.apart,rs.pin⟩
 ·by_cases hb:b=a
  ·subst hb;rw [upd_same] at e;cases e;exact hH
  ·rw [upd_ne hb] at e;exact rs.sub b u e
 ·by_cases hb:b=a
  ·subst hb;exact .inr (.inl h0)
  ·rw [upd_ne hb] at e;exact rs.new b u e
 ·obtain ⟨v,e1,r⟩:=rs.sl i s e
  refine ⟨v,e1,?_⟩
  cases s with
  | d x=>exact Rep.mono sm r
  | own xs=>
   obtain ⟨b,vs,rfl,z2,z3,z4,z5⟩:=r
   have hb:b≠a:=fun z=>mi i _ e rfl (z▸e1)
   exact ⟨b,vs,rfl,by rw [upd_ne hb];exact z2,z3,z4,z5.mono sm⟩
  | bor xs=>
   obtain ⟨b,vs,rfl,z2,z3,z4,z5⟩:=r
   have hb:b≠a:=fun z=>mi i _ e rfl (z▸e1)
   exact ⟨b,vs,rfl,by rw [upd_ne hb];exact z2,z3,z4,z5.mono sm⟩
theorem RS.put {a:Addr} {o:HO} (rs:RS C p σ F H) (ha:H a=none):RS C p σ (upd F a o) (upd H a o):=by
 obtain ⟨h1,h2,h3⟩:=rs.free ha
 exact (rs.laid (o:=o) ha).freeze h1 h2 upd_same h3
theorem RS.write {i:Nat} {s:Sl} {a:Addr} {us:List V} {ys:List D} (rs:RS C p σ F H) (hp:p[i]? = some (some s)) (m:s.mu=true) (hσ:σ[i]? = some (some (.ref a))) (hr:RepL C.K F ys us) :
  RS C (p.set i (some (s.put ys))) σ F (upd H a (.lst us))/\Shp p (p.set i (some (s.put ys))):=by
 have hi:i<p.length:=(List.getElem?_eq_some_iff.mp hp).1
 obtain ⟨v,e1,r⟩:=rs.sl i s hp
 rw [hσ] at e1;cases e1
 have fa:F a=none/\(C.H0 a=none\/∃q∈C.bs,q.2=a)/\∃vs,H a=some (.lst vs):=by
  cases s with
  | d x=>cases m
  | own xs=>obtain ⟨b,vs,e,z2,z3,z4,z5⟩:=r;cases e;exact ⟨z2,.inl z3,vs,z4⟩
  | bor xs=>obtain ⟨b,vs,e,z2,z3,z4,z5⟩:=r;cases e;exact ⟨z2,.inr z3,vs,z4⟩
 obtain ⟨fa,ha,vs0,hH⟩:=fa
 have hm:(s.put ys).mu=true:=by cases s<;>first|rfl|cases m
 refine ⟨⟨fun b u e=>?_,rs.ext,rs.new,fun b u e n=>?_,fun b n e=>?_,by rw [List.length_set];exact rs.len,fun j s' e=>?_,fun j k s1 s2 b hjk e1 m1 e2 m2 x1 x2=>?_,fun q hq=>?_⟩,⟨List.length_set,fun j s' e m'=>?_⟩⟩
 ·rw [upd_ne (fun z=>by rw [z,fa] at e;cases e)];exact rs.sub b u e
 ·have hb:b≠a:=fun z=>by
   subst z
   rcases ha with z|⟨q,hq,z⟩
   ·rw [z] at e;cases e
   ·exact n q hq z
  rw [upd_ne hb];exact rs.keep b u e n
 ·by_cases hb:b=a
  ·subst hb;rw [upd_same] at e;cases e
  ·rw [upd_ne hb] at e;exact rs.grow b n e
 ·by_cases hj:j=i
  ·subst hj
   rw [List.getElem?_set_self hi] at e
   cases e
   refine ⟨.ref a,hσ,?_⟩
   cases s with
   | d x=>cases m
   | own xs=>obtain ⟨b,vs,e,z2,z3,z4,z5⟩:=r;cases e;exact ⟨a,us,rfl,fa,z3,upd_same,hr⟩
   | bor xs=>obtain ⟨b,vs,e,z2,z3,z4,z5⟩:=r;cases e;exact ⟨a,us,rfl,fa,z3,upd_same,hr⟩
  ·rw [List.getElem?_set_ne (Ne.symm hj)] at e
   obtain ⟨v,e1,r'⟩:=rs.sl j s' e
   refine ⟨v,e1,?_⟩
   cases s' with
   | d x=>exact r'
   | own xs=>
    obtain ⟨b,vs,rfl,z2,z3,z4,z5⟩:=r'
    have hb:b≠a:=fun z=>rs.apart j i _ _ a hj e rfl hp m (z▸e1) hσ
    exact ⟨b,vs,rfl,z2,z3,by rw [upd_ne hb];exact z4,z5⟩
   | bor xs=>
    obtain ⟨b,vs,rfl,z2,z3,z4,z5⟩:=r'
    have hb:b≠a:=fun z=>rs.apart j i _ _ a hj e rfl hp m (z▸e1) hσ
    exact ⟨b,vs,rfl,z2,z3,by rw [upd_ne hb];exact z4,z5⟩
 ·have back:∀(j:Nat) (s':Sl),(p.set i (some (s.put ys)))[j]? = some (some s')->∃s'',p[j]? = some (some s'')/\(s'.mu=true->s''.mu=true):=fun j s' e=>by
   by_cases hj:j=i
   ·subst hj;exact ⟨s,hp,fun _=>m⟩
   ·rw [List.getElem?_set_ne (Ne.symm hj)] at e;exact ⟨s',e,id⟩
  obtain ⟨t1,f1,g1⟩:=back j s1 e1
  obtain ⟨t2,f2,g2⟩:=back k s2 e2
  exact rs.apart j k t1 t2 b hjk f1 (g1 m1) f2 (g2 m2) x1 x2
 ·obtain ⟨z1,xs,z2⟩:=rs.pin q hq
  refine ⟨z1,?_⟩
  by_cases hj:q.1=i
  ·rw [hj] at z2 ⊢
   rw [hp] at z2;cases z2
   exact ⟨ys,by rw [List.getElem?_set_self hi];rfl⟩
  ·exact ⟨xs,by rw [List.getElem?_set_ne (Ne.symm hj)];exact z2⟩
 ·by_cases hj:j=i
  ·subst hj;exact ⟨_,List.getElem?_set_self hi,hm⟩
  ·exact ⟨s',by rw [List.getElem?_set_ne (Ne.symm hj)];exact e,m'⟩
end
section
variable {X:Cx} {C:Pc} {a b c e:Expr} {ta tb tc:TQ} {pos:Pos} {K:PySem.W.Frag}
def qVar (i:Nat):TQ:=fun p Q=>∃s,p[i]? = some (some s)/\Q (s.ev i) p
theorem q_var {i:Nat} (h:PE X e (tVar i)):PE X e (Up C (qVar i)):=QE.mk h fun p σ F H R rs zq=>by
 obtain ⟨s,e1,q⟩:=zq
 obtain ⟨v,e2,r⟩:=rs.sl i s e1
 refine ⟨v,e2,s.ev i,p,F,rs,.refl _,.refl _,?_,q⟩
 cases s with
 | d x=>exact r
 | own xs=>exact ⟨⟨_,e1,rfl⟩,e2⟩
 | bor xs=>exact ⟨⟨_,e1,rfl⟩,e2⟩
def qC (x:D):TQ:=fun p Q=>Q (.fz x) p
theorem q_c {v:V} {x:D} (h:PE X e (tC v)) (r:∀F,Rep C.K F x v):PE X e (Up C (qC x)):=QE.mk h fun p σ F H R rs q=>⟨.fz x,p,F,rs,.refl _,.refl _,r F,q⟩
def q2 (Cn:Int->Int->Prop) (g:Int->Int->D) (ta tb:TQ):TQ:=fun p Q=>ta p fun e1 p1=>tb p1 fun e2 p2=>∃i j,lk p2 e1=.int i/\lk p2 e2=.int j/\Cn i j/\Q (.fz (g i j)) p2
def q20 (g:Int->Int->D) (ta tb:TQ):TQ:=fun p Q=>ta p fun e1 p1=>tb p1 fun e2 p2=>∃i j,lk p2 e1=.int i/\lk p2 e2=.int j/\Q (.fz (g i j)) p2
theorem fin_ev {p p1:PSt} {σ:St} {F F1 H1:Hp} {R:Ev->PSt->Prop} {x:D} {v:V} (rs:RS C p1 σ F1 H1) (s1:Same F F1) (sh:Shp p p1) (r:Rep C.K F1 x v) (q:R (.fz x) p1):XQ C p σ F R v H1:=⟨.fz x,p1,F1,rs,s1,sh,r,q⟩
theorem q_op {op:Operator} {Cn:Int->Int->Prop} {gv:Int->Int->V} {g:Int->Int->D} (ho:OpR X (binaryOp op) (rI Cn gv)) (hg:∀i j F,Rep C.K F (g i j) (gv i j)) (ha:PE X a (Up C ta)) (hb:PE X b (Up C tb)) :
  PE X (.BinOp a op b pos) (Up C (q2 Cn g ta tb)):=
 QE.mk (pe_op ho ha hb) fun p σ F H R rs ht=>up2 rs ht fun e1 e2 p1 v1 v2 F1 H1 rs1 s1 sh er1 er2 zq=>by obtain ⟨i,j,h1,h2,c,q⟩:=zq;exact ⟨i,j,ev_int er1 h1,ev_int er2 h2,c,fin_ev rs1 s1 sh (hg i j F1) q⟩
theorem q_op0 {op:Operator} {gv:Int->Int->V} {g:Int->Int->D} (ho:OpR X (binaryOp op) (rI0 gv)) (hg:∀i j F,Rep C.K F (g i j) (gv i j)) (ha:PE X a (Up C ta)) (hb:PE X b (Up C tb)) :
  PE X (.BinOp a op b pos) (Up C (q20 g ta tb)):=
 QE.mk (pe_op ho ha hb) fun p σ F H R rs ht=>up2 rs ht fun e1 e2 p1 v1 v2 F1 H1 rs1 s1 sh er1 er2 zq=>by obtain ⟨i,j,h1,h2,q⟩:=zq;exact ⟨i,j,ev_int er1 h1,ev_int er2 h2,fin_ev rs1 s1 sh (hg i j F1) q⟩
theorem q_add (ha:PE X a (Up C ta)) (hb:PE X b (Up C tb)):PE X (.BinOp a .Add b pos) (Up C (q20 (fun i j=>.int (i+j)) ta tb)):=q_op0 op_add (fun _ _ _=>.int _) ha hb
theorem q_sub (ha:PE X a (Up C ta)) (hb:PE X b (Up C tb)):PE X (.BinOp a .Sub b pos) (Up C (q20 (fun i j=>.int (i - j)) ta tb)):=q_op0 op_sub (fun _ _ _=>.int _) ha hb
theorem q_mul (ha:PE X a (Up C ta)) (hb:PE X b (Up C tb)):PE X (.BinOp a .Mult b pos) (Up C (q2 CMul (fun i j=>.int (i * j)) ta tb)):=q_op op_mul (fun _ _ _=>.int _) ha hb
def Fits (j:Int):Prop:=j.natAbs.log2<9000
theorem Fits.of {j:Int} {n:Nat} (h0:0<j) (h:j<2 ^ n) (hn:n<=9000):Fits j:=by
 unfold Fits
 have h1:j.natAbs<2 ^ n:=by
  have:((j.natAbs:Nat):Int)=j:=by omega
  have h2:((j.natAbs:Nat):Int)<((2 ^ n:Nat):Int):=by rw [this];push_cast;exact h
  exact_mod_cast h2
 have h2:j.natAbs≠0:=by omega
 exact Nat.lt_of_lt_of_le ((Nat.log2_lt h2).mpr h1) hn
def CDivQ (i j:Int):Prop:=0<j/\(j<2 ^ 64\/Fits j)
theorem op_fdivQ:OpR X (binaryOp .FloorDiv) (rI CDivQ fun i j=>.int (i / j)):=fun pins s σ H x y v u Q I rx ry ⟨i,j,h1,h2,⟨c1,c2⟩,q⟩=>op_fdivB pins s σ H x y v u Q I rx ry ⟨i,j,h1,h2,⟨c1,by
 rcases c2 with c2|c2
 ·exact Fits.of (n:=64) c1 c2 (by decide)
 ·exact c2⟩,q⟩
theorem q_fdiv (ha:PE X a (Up C ta)) (hb:PE X b (Up C tb)):PE X (.BinOp a .FloorDiv b pos) (Up C (q2 CDivQ (fun i j=>.int (i / j)) ta tb)):=q_op op_fdivQ (fun _ _ _=>.int _) ha hb
def CMod (i j:Int):Prop:=0<j
theorem q_mod (ha:PE X a (Up C ta)) (hb:PE X b (Up C tb)):PE X (.BinOp a .Mod b pos) (Up C (q2 CMod (fun i j=>.int (i % j)) ta tb)):=q_op (Cn:=CMod) op_mod (fun _ _ _=>.int _) ha hb
theorem q_pow (ha:PE X a (Up C ta)) (hb:PE X b (Up C tb)):PE X (.BinOp a .Pow b pos) (Up C (q2 CPow (fun i j=>.int (i ^ j.toNat)) ta tb)):=q_op op_pow (fun _ _ _=>.int _) ha hb
theorem q_and (ha:PE X a (Up C ta)) (hb:PE X b (Up C tb)):PE X (.BinOp a .BitAnd b pos) (Up C (q20 (fun i j=>.int (Builtin.bitAnd i j)) ta tb)):=q_op0 op_and (fun _ _ _=>.int _) ha hb
def q1 (g:Int->D) (ta:TQ):TQ:=fun p Q=>ta p fun e1 p1=>∃i,lk p1 e1=.int i/\Q (.fz (g i)) p1
theorem q_neg (ha:PE X a (Up C ta)):PE X (.UnaryOp .USub a pos) (Up C (q1 (fun i=>.int (-i)) ta)):=
 QE.mk (pe_un un_neg ha) fun p σ F H R rs ht=>up1 rs ht fun e1 p1 v1 F1 H1 rs1 s1 sh er1 zq=>by obtain ⟨i,h1,q⟩:=zq;exact ⟨i,ev_int er1 h1,fin_ev rs1 s1 sh (.int _) q⟩
def qTest (t:TQ):TTQ:=fun p Q=>t p fun e p1=>∃b,lk p1 e=.bl b/\Q b p1
theorem t_cmp {op:CmpOp} {gv:Int->Int->Bool} (ho:OpR X (compareOp op) (rI0 fun i j=>.bl (gv i j))) (hm:behindInMarks op b=false) (ha:PE X a (Up C ta)) (hb:PE X b (Up C tb)) :
  PT X (.Compare a [op] [b] pos) (UpT C (qTest (q20 (fun i j=>.bl (gv i j)) ta tb))):=
 QT.mk (pt_cmpR ho ha hb hm) fun p σ F H R rs ht=>up2 rs ht fun e1 e2 p1 v1 v2 F1 H1 rs1 s1 sh er1 er2 zq=>by obtain ⟨i,j,h1,h2,b,hb,q⟩:=zq;exact ⟨i,j,ev_int er1 h1,ev_int er2 h2,b,by cases hb;rfl,p1,F1,rs1,s1,sh,q⟩
theorem t_lt (ha:PE X a (Up C ta)) (hb:PE X b (Up C tb)):PT X (.Compare a [.Lt] [b] pos) (UpT C (qTest (q20 (fun i j=>.bl (decide (i<j))) ta tb))):=t_cmp op_lt (nomark _) ha hb
theorem t_le (ha:PE X a (Up C ta)) (hb:PE X b (Up C tb)):PT X (.Compare a [.LtE] [b] pos) (UpT C (qTest (q20 (fun i j=>.bl (decide (i<=j))) ta tb))):=t_cmp op_le (nomark _) ha hb
theorem t_gt (ha:PE X a (Up C ta)) (hb:PE X b (Up C tb)):PT X (.Compare a [.Gt] [b] pos) (UpT C (qTest (q20 (fun i j=>.bl (decide (j<i))) ta tb))):=t_cmp op_gt (nomark _) ha hb
theorem t_ge (ha:PE X a (Up C ta)) (hb:PE X b (Up C tb)):PT X (.Compare a [.GtE] [b] pos) (UpT C (qTest (q20 (fun i j=>.bl (decide (j<=i))) ta tb))):=t_cmp op_ge (nomark _) ha hb
def nrm:D->D
 | .scr ns=>.lst (ns.map D.int)
 | x=>x
noncomputable def deq (x y:D):Bool:=@decide (nrm x=nrm y) (Classical.propDecidable _)
def AllI (xs:List D):Prop:=∃ns:List Int,xs=ns.map D.int
inductive EqDom:D->D->Prop
 | int (i j:Int):EqDom (.int i) (.int j)
 | bl (i j:Bool):EqDom (.bl i) (.bl j)
 | str (i j:Str):EqDom (.str i) (.str j)
 | li {xs ys:List D}:AllI xs->AllI ys->EqDom (.lst xs) (.lst ys)
 | sc {ns:List Int} {ys:List D}:AllI ys->EqDom (.scr ns) (.lst ys)
theorem map_int_inj {ns ms:List Int}:ns.map D.int=ms.map D.int ↔ ns=ms:=by
 constructor
 ·intro h
  induction ns generalizing ms with
  | nil=>cases ms with
   | nil=>rfl
   | cons m r=>cases h
  | cons n r ih=>cases ms with
   | nil=>cases h
   | cons m r'=>
    rw [List.map_cons,List.map_cons] at h
    injection h with h1 h2
    injection h1 with h1
    rw [h1,ih h2]
 ·intro h;rw [h]
theorem deq_int (i j:Int):deq (.int i) (.int j)=decide (i=j):=by
 unfold deq nrm
 by_cases h:i=j
 ·subst h;simp
 ·have:D.int i≠D.int j:=fun z=>h (by injection z)
  simp [h,this]
theorem deq_bl (i j:Bool):deq (.bl i) (.bl j)=decide (i=j):=by
 unfold deq nrm
 by_cases h:i=j
 ·subst h;simp
 ·have:D.bl i≠D.bl j:=fun z=>h (by injection z)
  simp [h,this]
theorem deq_str (i j:Str):deq (.str i) (.str j)=decide (i=j):=by
 unfold deq nrm
 by_cases h:i=j
 ·subst h;simp
 ·have:D.str i≠D.str j:=fun z=>h (by injection z)
  simp [h,this]
theorem deq_ints (ns ms:List Int):deq (.lst (ns.map D.int)) (.lst (ms.map D.int))=decide (ns=ms):=by
 unfold deq nrm
 by_cases h:ns=ms
 ·subst h;simp
 ·have:D.lst (ns.map D.int)≠D.lst (ms.map D.int):=fun z=>h (map_int_inj.mp (by injection z))
  simp [h,this]
theorem deq_self (x:D):deq x x=true:=by unfold deq;simp
theorem deq_scr (ns ms:List Int):deq (.scr ns) (.lst (ms.map D.int))=decide (ns=ms):=deq_ints ns ms
theorem deq_scr0 (ns:List Int):deq (.scr ns) (.lst [])=decide (ns=[]):=deq_ints ns []
theorem eqd_scr0 (ns:List Int):EqDom (.scr ns) (.lst [])=True:=eq_true (.sc ⟨[],rfl⟩)
theorem AllI.nil:AllI []:=⟨[],rfl⟩
theorem eqd_l0 (ns:List Int):EqDom (.lst (ns.map D.int)) (.lst [])=True:=eq_true (.li ⟨ns,rfl⟩ ⟨[],rfl⟩)
theorem deq_l0 (ns:List Int):deq (.lst (ns.map D.int)) (.lst [])=decide (ns=[]):=deq_ints ns []
theorem eqd_l1 (ns:List Int) (x:Int):EqDom (.lst (ns.map D.int)) (.lst [.int x])=True:=eq_true (.li ⟨ns,rfl⟩ ⟨[x],rfl⟩)
theorem deq_l1 (ns:List Int) (x:Int):deq (.lst (ns.map D.int)) (.lst [.int x])=decide (ns=[x]):=deq_ints ns [x]
theorem eqd_int (i j:Int):EqDom (.int i) (.int j)=True:=eq_true (.int i j)
theorem eqd_bl (i j:Bool):EqDom (.bl i) (.bl j)=True:=eq_true (.bl i j)
theorem eqd_str (i j:Str):EqDom (.str i) (.str j)=True:=eq_true (.str i j)
theorem eqd_ints (ns ms:List Int):EqDom (.lst (ns.map D.int)) (.lst (ms.map D.int))=True:=eq_true (.li ⟨ns,rfl⟩ ⟨ms,rfl⟩)
theorem eq_use {x y:D} {e1 e2:Ev} {v1 v2:V} {p:PSt} {σ:St} {F H:Hp} (d:EqDom x y) (rs:RS C p σ F H) (er1:EvR C.K p σ F e1 v1) (er2:EvR C.K p σ F e2 v2) (h1:lk p e1=x) (h2:lk p e2=y) :
  (scal v1 v2=true/\decide (v1=v2)=deq x y)\/∃(a b:Addr) (ns ms:List Int),v1=.ref a/\v2=.ref b/\SqL C.K H a (ns.map V.int)/\SqL C.K H b (ms.map V.int)/\decide (ns=ms)=deq x y:=by
 cases d with
 | int i j=>rw [ev_int er1 h1,ev_int er2 h2,deq_int];exact .inl ⟨rfl,by simp⟩
 | bl i j=>rw [ev_bl er1 h1,ev_bl er2 h2,deq_bl];exact .inl ⟨rfl,by simp⟩
 | str i j=>rw [ev_str er1 h1,ev_str er2 h2,deq_str];exact .inl ⟨rfl,by simp⟩
 | li q1 q2=>
  obtain ⟨ns,rfl⟩:=q1
  obtain ⟨ms,rfl⟩:=q2
  obtain ⟨a1,vs1,rfl,g1,r1⟩:=ev_lst rs er1 h1
  obtain ⟨a2,vs2,rfl,g2,r2⟩:=ev_lst rs er2 h2
  rw [r1.ints] at g1
  rw [r2.ints] at g2
  exact .inr ⟨a1,a2,ns,ms,rfl,rfl,.of g1,.of g2,by rw [deq_ints]⟩
 | @sc ns ys q2=>
  obtain ⟨ms,rfl⟩:=q2
  obtain ⟨a2,vs2,rfl,g2,r2⟩:=ev_lst rs er2 h2
  rw [r2.ints] at g2
  obtain ⟨a1,rfl,g1⟩:=ev_scr rs er1 h1
  exact .inr ⟨a1,a2,ns,ms,rfl,rfl,g1,.of g2,by rw [deq_scr]⟩
def qEq (f:Bool->Bool) (ta tb:TQ):TQ:=fun p Q=>ta p fun e1 p1=>tb p1 fun e2 p2=>EqDom (lk p2 e1) (lk p2 e2)/\Q (.fz (.bl (f (deq (lk p2 e1) (lk p2 e2))))) p2
theorem op_eqU (h:X.K=K) (hu:X.A.units+64<cLine):OpR X (compareOp .Eq) (fun x y H Q=>rEq x y H Q\/rEqL K x y H Q):=op_eq.or (op_eqLK h hu)
theorem op_neU (h:X.K=K) (hu:X.A.units+64<cLine):OpR X (compareOp .NotEq) (fun x y H Q=>rNe x y H Q\/rNeL K x y H Q):=op_ne.or (op_neLK h hu)
theorem use_eq {x y:V} {H:Hp} {Q:VK} {k:Bool} (h:(scal x y=true/\decide (x=y)=k)\/∃(a b:Addr) (ns ms:List Int),x=.ref a/\y=.ref b/\SqL K H a (ns.map V.int)/\SqL K H b (ms.map V.int)/\decide (ns=ms)=k) (q:Q (.bl k) H) :
  rEq x y H Q\/rEqL K x y H Q:=by
 rcases h with ⟨h1,h2⟩|⟨a,b,ns,ms,h1,h2,h3,h4,h5⟩
 ·exact .inl ⟨h1,by rw [h2];exact q⟩
 ·exact .inr ⟨a,b,ns,ms,h1,h2,h3,h4,by rw [h5];exact q⟩
theorem use_ne {x y:V} {H:Hp} {Q:VK} {k:Bool} (h:(scal x y=true/\decide (x=y)=k)\/∃(a b:Addr) (ns ms:List Int),x=.ref a/\y=.ref b/\SqL K H a (ns.map V.int)/\SqL K H b (ms.map V.int)/\decide (ns=ms)=k) (q:Q (.bl (!k)) H) :
  rNe x y H Q\/rNeL K x y H Q:=by
 rcases h with ⟨h1,h2⟩|⟨a,b,ns,ms,h1,h2,h3,h4,h5⟩
 ·exact .inl ⟨h1,by rw [h2];exact q⟩
 ·exact .inr ⟨a,b,ns,ms,h1,h2,h3,h4,by rw [h5];exact q⟩
theorem q_eq (hK:X.K=C.K) (hu:X.A.units+64<cLine) (ha:PE X a (Up C ta)) (hb:PE X b (Up C tb)):PE X (.Compare a [.Eq] [b] pos) (Up C (qEq (fun k=>k) ta tb)):=
 QE.mk (pe_cmpR (op_eqU hK hu) ha hb (nomark _)) fun p σ F H R rs ht=>up2 rs ht fun e1 e2 p1 v1 v2 F1 H1 rs1 s1 sh er1 er2 zq=>by obtain ⟨d,q⟩:=zq;exact use_eq (eq_use d rs1 er1 er2 rfl rfl) (fin_ev rs1 s1 sh (.bl _) q)
theorem t_eq (hK:X.K=C.K) (hu:X.A.units+64<cLine) (ha:PE X a (Up C ta)) (hb:PE X b (Up C tb)):PT X (.Compare a [.Eq] [b] pos) (UpT C (qTest (qEq (fun k=>k) ta tb))):=
 QT.mk (pt_cmpR (op_eqU hK hu) ha hb (nomark _)) fun p σ F H R rs ht=>up2 rs ht fun e1 e2 p1 v1 v2 F1 H1 rs1 s1 sh er1 er2 zq=>by obtain ⟨d,k,hk,q⟩:=zq;exact use_eq (eq_use d rs1 er1 er2 rfl rfl) ⟨k,by cases hk;rfl,p1,F1,rs1,s1,sh,q⟩
theorem t_ne (hK:X.K=C.K) (hu:X.A.units+64<cLine) (ha:PE X a (Up C ta)) (hb:PE X b (Up C tb)):PT X (.Compare a [.NotEq] [b] pos) (UpT C (qTest (qEq (fun k=>!k) ta tb))):=
 QT.mk (pt_cmpR (op_neU hK hu) ha hb (nomark _)) fun p σ F H R rs ht=>up2 rs ht fun e1 e2 p1 v1 v2 F1 H1 rs1 s1 sh er1 er2 zq=>by obtain ⟨d,k,hk,q⟩:=zq;exact use_ne (eq_use d rs1 er1 er2 rfl rfl) ⟨k,by cases hk;rfl,p1,F1,rs1,s1,sh,q⟩
def isN:D->Bool
 | .non=>true
 | .atom v=>decide (v=.non)
 | _=>false
theorem isN_ok {e1:Ev} {v:V} {p:PSt} {σ:St} {F H:Hp} (rs:RS C p σ F H) (er:EvR C.K p σ F e1 v):decide (v=.non)=isN (lk p e1):=by
 cases e1 with
 | fz x=>
  cases x<;>(cases er)<;>first|rfl|simp [isN,lk]
 | ow i=>
  obtain ⟨⟨s,h1,m⟩,h2⟩:=er
  obtain ⟨w,e1,sr⟩:=rs.sl i s h1
  rw [h2] at e1;cases e1
  show _=isN (match p[i]? with|some (some s)=>s.val|_=>.non)
  rw [h1]
  cases s with
  | d x=>cases m
  | own xs=>obtain ⟨a,vs,rfl,_⟩:=sr;rfl
  | bor xs=>obtain ⟨a,vs,rfl,_⟩:=sr;rfl
def qIsN (f:Bool->Bool) (ta:TQ):TQ:=fun p Q=>ta p fun e1 p1=>Q (.fz (.bl (f (isN (lk p1 e1))))) p1
theorem t_isN {j pos'} (ha:PE X a (Up C ta)):PT X (.Compare a [.Is] [.Constant .none j pos'] pos) (UpT C (qTest (qIsN (fun k=>k) ta))):=
 QT.mk (pt_cmp (pc_isN ha)) fun p σ F H R rs ht=>up1 rs ht fun e1 p1 v1 F1 H1 rs1 s1 sh er1 zq=>by obtain ⟨k,hk,q⟩:=zq;exact ⟨k,by cases hk;rw [isN_ok rs1 er1],p1,F1,rs1,s1,sh,q⟩
theorem t_isnotN {j pos'} (ha:PE X a (Up C ta)):PT X (.Compare a [.IsNot] [.Constant .none j pos'] pos) (UpT C (qTest (qIsN (fun k=>!k) ta))):=
 QT.mk (pt_cmp (pc_notN ha)) fun p σ F H R rs ht=>up1 rs ht fun e1 p1 v1 F1 H1 rs1 s1 sh er1 zq=>by obtain ⟨k,hk,q⟩:=zq;exact ⟨k,by cases hk;rw [isN_ok rs1 er1],p1,F1,rs1,s1,sh,q⟩
def qChain (f g:Int->Int->Bool) (ta tb tc:TQ):TQ:=fun p Q=>ta p fun e1 p1=>tb p1 fun e2 p2=>∃i j,lk p2 e1=.int i/\lk p2 e2=.int j /\
 if f i j=true then tc p2 fun e3 p3=>∃k,lk p3 e3=.int k/\Q (.fz (.bl (g j k))) p3 else Q (.fz (.bl false)) p2
theorem ite_imp {c:Prop} [Decidable c] {A B A' B':Prop} (h1:A->A') (h2:B->B') (h:if c then A else B):if c then A' else B':=by
 by_cases hc:c
 ·rw [if_pos hc] at h ⊢;exact h1 h
 ·rw [if_neg hc] at h ⊢;exact h2 h
theorem t_chain {op op':CmpOp} {f g:Int->Int->Bool} (ho:OpR X (compareOp op) (rI0 fun i j=>.bl (f i j))) (ho':OpR X (compareOp op') (rI0 fun i j=>.bl (g i j))) (ha:PE X a (Up C ta)) (hb:PE X b (Up C tb)) (hc:PE X c (Up C tc))
  (hm:lastMarks [op,op'] [b,c]=false:=by with_unfolding_all rfl):PT X (.Compare a [op,op'] [b,c] pos) (UpT C (qTest (qChain f g ta tb tc))):=
 QT.mk (pt_chain ho ho' ha hb hc hm) fun p σ F H R rs ht=>up2 rs ht fun e1 e2 p1 v1 v2 F1 H1 rs1 s1 sh er1 er2 zq=>by
  obtain ⟨i,j,h1,h2,q⟩:=zq
  refine ⟨i,j,ev_int er1 h1,ev_int er2 h2,f i j,rfl,?_⟩
  refine ite_imp (fun q=>?_) (fun q=>?_) q
  ·refine up1 rs1 q fun e3 p3 v3 F3 H3 rs3 s3 sh3 er3 ⟨k,h3,l,hl,q3⟩=>?_
   refine ⟨j,k,ev_int er2 h2,ev_int er3 h3,l,by cases hl;rfl,p3,F3,rs3,s1.trans s3,sh.trans sh3,q3⟩
  ·obtain ⟨l,hl,q⟩:=q
   exact ⟨l,by cases hl;rfl,p1,F1,rs1,s1,sh,q⟩
variable {tA tB':TTQ} {rest:List Expr}
theorem t_val {t : TQ} (h : PE X e (Up C t)) (he : ∀ whole, isTrue e X.env whole = (do let v ← whole; standAt e.pos; holding [v] (truthy v)) := by intro _; rfl) : PT X e (UpT C (qTest t)) :=
  QT.mk (pt_val h he) fun p σ F H R rs ht => up1 rs ht fun e1 p1 v1 F1 H1 rs1 s1 sh er1 ⟨k, hk, q⟩ => ⟨k, ev_bl er1 hk, p1, F1, rs1, s1, sh, q⟩
def qAnd (t u:TTQ):TTQ:=fun p Q=>t p fun c p1=>if c=true then u p1 Q else Q false p1
def qOr (t u:TTQ):TTQ:=fun p Q=>t p fun c p1=>if c=true then Q true p1 else u p1 Q
def qNot (t:TTQ):TTQ:=fun p Q=>t p fun c p1=>Q (!c) p1
theorem w_and1 (ha:PT X a (UpT C tA)):PW X (.BoolOp .And [a] pos) (UpT C tA):=pw_and1 ha
theorem w_or1 (ha:PT X a (UpT C tA)):PW X (.BoolOp .Or [a] pos) (UpT C tA):=pw_or1 ha
theorem w_and (ha:PT X a (UpT C tA)) (hb:PW X (.BoolOp .And (b::rest) pos) (UpT C tB')):PW X (.BoolOp .And (a::b::rest) pos) (UpT C (qAnd tA tB')):=
 QW.mk (pw_and ha hb) fun p σ F H R rs ht=>upT1 rs ht fun k p1 F1 H1 rs1 s1 sh q=>ite_imp (fun q=>upT1 rs1 q fun k2 p2 F2 H2 rs2 s2 sh2 q2=>⟨p2,F2,rs2,s1.trans s2,sh.trans sh2,q2⟩) (fun q=>⟨p1,F1,rs1,s1,sh,q⟩) q
theorem w_or (ha:PT X a (UpT C tA)) (hb:PW X (.BoolOp .Or (b::rest) pos) (UpT C tB')):PW X (.BoolOp .Or (a::b::rest) pos) (UpT C (qOr tA tB')):=
 QW.mk (pw_or ha hb) fun p σ F H R rs ht=>upT1 rs ht fun k p1 F1 H1 rs1 s1 sh q=>ite_imp (fun q=>⟨p1,F1,rs1,s1,sh,q⟩) (fun q=>upT1 rs1 q fun k2 p2 F2 H2 rs2 s2 sh2 q2=>⟨p2,F2,rs2,s1.trans s2,sh.trans sh2,q2⟩) q
theorem t_not (ha:PT X a (UpT C tA)):PT X (.UnaryOp .Not a pos) (UpT C (qNot tA)):=
 QT.mk (pt_not ha) fun p σ F H R rs ht=>upT1 rs ht fun k p1 F1 H1 rs1 s1 sh q=>⟨p1,F1,rs1,s1,sh,q⟩
def qAndV (ta tb:TQ):TQ:=fun p Q=>ta p fun e p1=>∃c,lk p1 e=.bl c/\if c=true then tb p1 Q else Q (.fz (.bl false)) p1
def qNotV (ta:TQ):TQ:=fun p Q=>ta p fun e p1=>∃c,lk p1 e=.bl c/\Q (.fz (.bl (!c))) p1
theorem q_one {op} (h:PE X a (Up C ta)):PE X (.BoolOp op [a] pos) (Up C ta):=pe_one h
theorem q_andV (ha:PE X a (Up C ta)) (hb:PE X (.BoolOp .And (b::rest) pos) (Up C tb)):PE X (.BoolOp .And (a::b::rest) pos) (Up C (qAndV ta tb)):=
 QE.mk (pe_and ha hb) fun p σ F H R rs ht=>up1 rs ht fun e1 p1 v1 F1 H1 rs1 s1 sh er1 zq=>by obtain ⟨k,hk,q⟩:=zq;exact ⟨k,ev_bl er1 hk,ite_imp (fun q=>up1 rs1 q fun e2 p2 v2 F2 H2 rs2 s2 sh2 er2 q2=>⟨e2,p2,F2,rs2,s1.trans s2,sh.trans sh2,er2,q2⟩) (fun q=>fin_ev rs1 s1 sh (.bl _) q) q⟩
theorem q_notV (ha:PE X a (Up C ta)):PE X (.UnaryOp .Not a pos) (Up C (qNotV ta)):=
 QE.mk (pe_not ha) fun p σ F H R rs ht=>up1 rs ht fun e1 p1 v1 F1 H1 rs1 s1 sh er1 zq=>by obtain ⟨k,hk,q⟩:=zq;exact ⟨k,ev_bl er1 hk,fin_ev rs1 s1 sh (.bl _) q⟩
def qIf (t:TTQ) (ta tb:TQ):TQ:=fun p Q=>t p fun c p1=>if c=true then ta p1 Q else tb p1 Q
theorem q_ifExp (hc:PT X c (UpT C tA)) (ha:PE X a (Up C ta)) (hb:PE X b (Up C tb)):PE X (.IfExp c a b pos) (Up C (qIf tA ta tb)):=
 QE.mk (pe_ifExp hc ha hb) fun p σ F H R rs ht=>upT1 rs ht fun k p1 F1 H1 rs1 s1 sh q=>
  ite_imp (fun q=>up1 rs1 q fun e2 p2 v2 F2 H2 rs2 s2 sh2 er2 q2=>⟨e2,p2,F2,rs2,s1.trans s2,sh.trans sh2,er2,q2⟩) (fun q=>up1 rs1 q fun e2 p2 v2 F2 H2 rs2 s2 sh2 er2 q2=>⟨e2,p2,F2,rs2,s1.trans s2,sh.trans sh2,er2,q2⟩) q
def qFz (t:TN):TQ:=fun p Q=>t p fun r p1=>Q (.fz r.val) p1
theorem RtR.fz {r:Rt} {v:V} {p:PSt} {σ:St} {F H:Hp} (rs:RS C p σ F H) (h:RtR C p σ F H r v):∃F1,RS C p σ F1 H/\Same F F1/\Rep C.K F1 r.val v:=by
 cases r with
 | rd x=>exact ⟨F,rs,.refl _,h⟩
 | ro xs=>
  obtain ⟨a,vs,rfl,h1,h2,h3,h4,h5⟩:=h
  exact ⟨_,rs.freeze h1 h2 h3 h5,same_upd h1 _,.lst upd_same (h4.mono (same_upd h1 _))⟩
theorem q_fz {t:TN} (h:PE X e (UpN C t)):PE X e (Up C (qFz t)):=
 QE.mk h fun p σ F H R rs ht=>upN1 rs ht fun r p1 v1 F1 H1 rs1 s1 sh rr q=>by
  obtain ⟨F2,rs2,s2,r2⟩:=rr.fz rs1
  exact fin_ev rs2 (s1.trans s2) sh r2 q
def nVal (t:TQ):TN:=fun p Q=>t p fun e p1=>∃x,e=.fz x/\Q (.rd x) p1
theorem n_val {t:TQ} (h:PE X e (Up C t)):PE X e (UpN C (nVal t)):=
 QN.mk h fun p σ F H R rs ht=>up1 rs ht fun e1 p1 v1 F1 H1 rs1 s1 sh er1 zq=>by obtain ⟨x,hx,q⟩:=zq;exact ⟨.rd x,p1,F1,rs1,s1,sh,by subst hx;exact er1,q⟩
variable {es:List Expr} {tas:TAQ}
def qNil:TAQ:=fun p Q=>Q [] p
def qCons (ta:TQ) (tr:TAQ):TAQ:=fun p Q=>ta p fun x p1=>tr p1 fun xs p2=>Q (x::xs) p2
theorem a_nil:PA X [] (UpA C qNil):=QA.mk pa_nil fun p σ F H R rs q=>⟨[],p,F,rs,.refl _,.refl _,.nil,q⟩
theorem a_cons (ha:PE X e (Up C ta)) (hr:PA X es (UpA C tas)) (hs:starEach (e::es) X.env=(false,eval e X.env)::starEach es X.env:=by rfl):PA X (e::es) (UpA C (qCons ta tas)):=
 QA.mk (pa_cons ha hr hs) fun p σ F H R rs ht=>up1 rs ht fun e1 p1 v1 F1 H1 rs1 s1 sh er1 q=>upA1 rs1 q fun es2 p2 vs2 F2 H2 rs2 s2 sh2 er2 q2=>
  ⟨e1::es2,p2,F2,rs2,s1.trans s2,sh.trans sh2,.cons (er1.mono s2 sh2) er2,q2⟩
def fzs:List Ev->Option (List D)
 | []=>some []
 | .fz x::r=>match fzs r with
  | some xs=>some (x::xs)
  | none=>none
 | .ow _::_=>none
theorem fzs_ok {p:PSt} {σ:St} {F:Hp}:∀{es:List Ev} {vs:List V} {xs:List D},EvRs C.K p σ F es vs->fzs es=some xs->RepL C.K F xs vs
 | _,_,_,.nil,h=>by cases h;exact .nil
 | .fz x::r,_,xs,.cons h1 h2,h=>by
  unfold fzs at h
  cases e:fzs r with
  | none=>rw [e] at h;cases h
  | some ys=>rw [e] at h;cases h;exact .cons h1 (fzs_ok h2 e)
 | .ow i::r,_,xs,.cons h1 h2,h=>by cases h
def nLst (t:TAQ):TN:=fun p Q=>t p fun es p1=>∃xs,fzs es=some xs/\xs.length<=100000/\Q (.ro xs) p1
theorem line_of {n:Nat} (h:n<=100000):n<=sizeLine:=Nat.le_trans h (by decide)
theorem fin_new {p p1:PSt} {σ:St} {F F1 H1:Hp} {R:Rt->PSt->Prop} {xs:List D} {vs:List V} {a:Addr} (rs:RS C p1 σ F1 H1) (s1:Same F F1) (sh:Shp p p1) (ha:H1 a=none) (r:RepL C.K F1 xs vs) (q:R (.ro xs) p1):XN C p σ F R (.ref a) (upd H1 a (.lst vs)):=by
 obtain ⟨h1,h2,h3⟩:=rs.free ha
 exact ⟨.ro xs,p1,F1,rs.laid ha,s1,sh,⟨a,vs,rfl,h1,h2,upd_same,r,h3⟩,q⟩
theorem n_lst (h:PA X es (UpA C tas)):PE X (.List es pos) (UpN C (nLst tas)):=
 QN.mk (pe_lst h) fun p σ F H R rs ht=>upA1 rs ht fun es1 p1 vs1 F1 H1 rs1 s1 sh er1 zq=>by
  obtain ⟨xs,hx,hl,q⟩:=zq
  have r:=fzs_ok er1 hx
  exact ⟨line_of (by rw [<-r.length];exact hl),fun a ha=>fin_new rs1 s1 sh ha r q⟩
def qTup (t:TAQ):TQ:=fun p Q=>t p fun es p1=>∃xs,fzs es=some xs/\xs.length<=100000/\Q (.fz (.tup xs)) p1
theorem q_tup {x1} (h:PA X es (UpA C tas)):PE X (.Tuple es x1 pos) (Up C (qTup tas)):=
 QE.mk (pe_tup h) fun p σ F H R rs ht=>upA1 rs ht fun es1 p1 vs1 F1 H1 rs1 s1 sh er1 zq=>by
  obtain ⟨xs,hx,hl,q⟩:=zq
  have r:=fzs_ok er1 hx
  refine ⟨line_of (by rw [<-r.length];exact hl),fun a ha=>?_⟩
  obtain ⟨h1,h2,h3⟩:=rs1.free ha
  exact fin_ev (rs1.put ha) (s1.trans (same_upd h1 _)) sh (.tup upd_same (r.mono (same_upd h1 _))) q
end
def seqOf:D->Option (List D)
 | .lst ds=>some ds
 | .tup ds=>some ds
 | _=>none
def seqL:D->Option (List D)
 | .lst ds=>some ds
 | .scr ns=>some (ns.map D.int)
 | _=>none
def mutL (p:PSt) (i:Nat):Option (List D):=match p[i]? with
 | some (some (.own xs))=>some xs
 | some (some (.bor xs))=>some xs
 | _=>none
def putL (p:PSt) (i:Nat) (ys:List D):PSt:=match p[i]? with
 | some (some s)=>p.set i (some (s.put ys))
 | _=>p
def cut {α:Type} (xs:List α) (lo hi:Option Int):List α:=(xs.drop (HT.sIx xs.length 0 lo)).take (HT.sIx xs.length xs.length hi - HT.sIx xs.length 0 lo)
section
variable {X:Cx} {C:Pc} {a b c e:Expr} {ta tb tc:TQ} {pos:Pos} {K:PySem.W.Frag} {p:PSt} {σ:St} {F H:Hp}
theorem RepL.at {ds:List D} {vs:List V} {k:Int} {x:D} (r:RepL K F ds vs) (h:atI ds k=some x):∃v,atI vs k=some v/\Rep K F x v:=by
 unfold atI at h ⊢
 rw [r.length] at h
 cases e:ixN vs.length k with
 | none=>rw [e] at h;cases h
 | some j=>rw [e] at h;exact r.get h
theorem RepL.cut {ds:List D} {vs:List V} (r:RepL K F ds vs) (lo hi:Option Int):RepL K F (cut ds lo hi) (cutV vs lo hi):=by
 unfold L2.cut cutV
 rw [r.length]
 exact (r.drop _).take _
theorem ev_seq {e1:Ev} {v:V} {ds:List D} (rs:RS C p σ F H) (er:EvR C.K p σ F e1 v) (h:seqOf (lk p e1)=some ds):∃a vs,v=.ref a/\(SqL C.K H a vs\/SqT C.K H a vs)/\RepL C.K F ds vs:=by
 cases e:lk p e1 with
 | lst xs=>rw [e] at h;cases h;obtain ⟨a,vs,h1,h2,h3⟩:=ev_lst rs er e;exact ⟨a,vs,h1,.inl (.of h2),h3⟩
 | tup xs=>rw [e] at h;cases h;obtain ⟨a,vs,h1,h2,h3⟩:=ev_tup rs er e;exact ⟨a,vs,h1,.inr (.of h2),h3⟩
 | _=>rw [e] at h;cases h
theorem ev_sq {e1:Ev} {v:V} {ds:List D} (rs:RS C p σ F H) (er:EvR C.K p σ F e1 v) (h:seqL (lk p e1)=some ds):∃a vs,v=.ref a/\SqL C.K H a vs/\RepL C.K F ds vs:=by
 cases e:lk p e1 with
 | lst xs=>rw [e] at h;cases h;obtain ⟨a,vs,h1,h2,h3⟩:=ev_lst rs er e;exact ⟨a,vs,h1,.of h2,h3⟩
 | scr ns=>rw [e] at h;cases h;obtain ⟨a,h1,h2⟩:=ev_scr rs er e;exact ⟨a,_,h1,h2,.of_ints ns⟩
 | _=>rw [e] at h;cases h
def qIx (ta tb:TQ):TQ:=fun p Q=>ta p fun e1 p1=>tb p1 fun e2 p2=>∃ds k x,seqOf (lk p2 e1)=some ds/\lk p2 e2=.int k/\atI ds k=some x/\Q (.fz x) p2
theorem ix_seqK (h:X.K=K):IxR X (fun x y H Q=>rIxL K x y H Q\/rIxT K x y H Q):=by subst h;exact ix_list.or ix_tup
theorem q_ix (hK:X.K=C.K) (ha:PE X a (Up C ta)) (hb:PE X b (Up C tb)) (hs:PlainIx b):PE X (.Subscript a b pos) (Up C (qIx ta tb)):=
 QE.mk (pe_ix (ix_seqK hK) ha hb hs) fun p σ F H R rs ht=>up2 rs ht fun e1 e2 p1 v1 v2 F1 H1 rs1 s1 sh er1 er2 zq=>by
  obtain ⟨ds,k,x,h1,h2,h3,q⟩:=zq
  obtain ⟨a1,vs,rfl,g,r⟩:=ev_seq rs1 er1 h1
  obtain ⟨v,e3,r3⟩:=r.at h3
  rw [ev_int er2 h2]
  rcases g with g|g
  ·exact .inl ⟨a1,vs,k,v,rfl,rfl,g,e3,fin_ev rs1 s1 sh r3 q⟩
  ·exact .inr ⟨a1,vs,k,v,rfl,rfl,g,e3,fin_ev rs1 s1 sh r3 q⟩
abbrev TOQ:=PSt->(Option Int->PSt->Prop)->Prop
def UpO (C:Pc) (t:TOQ):TO:=fun σ H Q=>∃p F R,RS C p σ F H/\t p R/\∀o H1,(∃p1 F1,RS C p1 σ F1 H1/\Same F F1/\Shp p p1/\R o p1)->Q o H1
def qoNone:TOQ:=fun p Q=>Q none p
def qoSome (t:TQ):TOQ:=fun p Q=>t p fun e p1=>∃i,lk p1 e=.int i/\Q (some i) p1
theorem QO.mk {e:Option Expr} {t:TO} {t':TOQ} (h:PO X e t) (hi:∀p σ F H R,RS C p σ F H->t' p R->t σ H (fun o H1=>∃p1 F1,RS C p1 σ F1 H1/\Same F F1/\Shp p p1/\R o p1)):PO X e (UpO C t'):=fun pins s σ H Q I zq=>by
 obtain ⟨p,F,R,rs,ht,hq⟩:=zq
 exact thn (h pins s σ H _ I (hi p σ F H R rs ht)) fun _ _ zq=>by obtain ⟨o,H1,I1,r1,q1⟩:=zq;exact ⟨o,H1,I1,r1,hq o H1 q1⟩
theorem o_none:PO X none (UpO C qoNone):=QO.mk po_none fun p σ F H R rs q=>⟨p,F,rs,.refl _,.refl _,q⟩
theorem o_some (h:PE X e (Up C ta)):PO X (some e) (UpO C (qoSome ta)):=QO.mk (po_some h) fun p σ F H R rs ht=>up1 rs ht fun e1 p1 v1 F1 H1 rs1 s1 sh er1 zq=>by obtain ⟨i,h1,q⟩:=zq;exact ⟨i,ev_int er1 h1,p1,F1,rs1,s1,sh,q⟩
def nSl (ta:TQ) (tl th:TOQ):TN:=fun p Q=>ta p fun e1 p1=>tl p1 fun lo p2=>th p2 fun hi p3=>∃ds,seqL (lk p3 e1)=some ds/\Q (.ro (cut ds lo hi)) p3
theorem n_sl {lo hi:Option Expr} {tl th:TOQ} {p2:Pos} (hK:X.K=C.K) (he:PE X e (Up C ta)) (hl:PO X lo (UpO C tl)) (hu:PO X hi (UpO C th)):PE X (.Subscript e (.Slice lo hi none p2) pos) (UpN C (nSl ta tl th)):=
 QN.mk (pe_slice (sl_listK hK) he hl hu) fun p σ F H R rs ht=>up1 rs ht fun e1 p1 v1 F1 H1 rs1 s1 sh1 er1 q1=>by
  refine ⟨p1,F1,_,rs1,q1,fun lo H2 ⟨p2,F2,rs2,s2,sh2,q2⟩=>?_⟩
  refine ⟨p2,F2,_,rs2,q2,fun hi H3 ⟨p3,F3,rs3,s3,sh3,ds,h1,q3⟩=>?_⟩
  obtain ⟨a1,vs,rfl,g,r⟩:=ev_sq rs3 (er1.mono (s2.trans s3) (sh2.trans sh3)) h1
  exact ⟨a1,vs,rfl,g,fun q hq=>fin_new rs3 (s1.trans (s2.trans s3)) (sh1.trans (sh2.trans sh3)) hq (r.cut lo hi) q3⟩
def nRev (ta:TQ):TN:=fun p Q=>ta p fun e1 p1=>∃ds,lk p1 e1=.lst ds/\Q (.ro ds.reverse) p1
theorem n_rev {p1 p2 p3:Pos} {j} (hK:X.K=C.K) (he:PE X e (Up C ta)):PE X (.Subscript e (.Slice none none (some (.UnaryOp .USub (.Constant (.int 1) j p1) p2)) p3) pos) (UpN C (nRev ta)):=
 QN.mk (pe_revK hK he) fun p σ F H R rs ht=>up1 rs ht fun e1 p1 v1 F1 H1 rs1 s1 sh er1 zq=>by
  obtain ⟨ds,h1,q⟩:=zq
  obtain ⟨a1,vs,rfl,g,r⟩:=ev_lst rs1 er1 h1
  exact ⟨a1,vs,rfl,.of g,fun q' hq=>fin_new rs1 s1 sh hq r.reverse q⟩
def nCat (ta tb:TQ):TN:=fun p Q=>ta p fun e1 p1=>tb p1 fun e2 p2=>∃xs ys,lk p2 e1=.lst xs/\lk p2 e2=.lst ys/\xs.length+ys.length<=100000/\Q (.ro (xs++ys)) p2
theorem n_cat (ha:PE X a (Up C ta)) (hb:PE X b (Up C tb)):PE X (.BinOp a .Add b pos) (UpN C (nCat ta tb)):=
 QN.mk (pe_op op_cat ha hb) fun p σ F H R rs ht=>up2 rs ht fun e1 e2 p1 v1 v2 F1 H1 rs1 s1 sh er1 er2 zq=>by
  obtain ⟨xs,ys,h1,h2,hz,q⟩:=zq
  obtain ⟨a1,vs1,rfl,g1,r1⟩:=ev_lst rs1 er1 h1
  obtain ⟨a2,vs2,rfl,g2,r2⟩:=ev_lst rs1 er2 h2
  exact ⟨a1,a2,vs1,vs2,rfl,rfl,g1,g2,line_of (by rw [<-r1.length,<-r2.length];exact hz),fun q' hq=>fin_new rs1 s1 sh hq (r1.append r2) q⟩
def nRep (ta tb:TQ):TN:=fun p Q=>ta p fun e1 p1=>tb p1 fun e2 p2=>∃xs k,lk p2 e1=.lst xs/\lk p2 e2=.int k/\k<2 ^ 62/\-(2 ^ 62)<=k/\xs.length * k.toNat<=100000/\Q (.ro (List.replicate k.toNat xs).flatten) p2
theorem n_rep (ha:PE X a (Up C ta)) (hb:PE X b (Up C tb)):PE X (.BinOp a .Mult b pos) (UpN C (nRep ta tb)):=
 QN.mk (pe_op op_rep ha hb) fun p σ F H R rs ht=>up2 rs ht fun e1 e2 p1 v1 v2 F1 H1 rs1 s1 sh er1 er2 zq=>by
  obtain ⟨xs,k,h1,h2,k1,k2,hz,q⟩:=zq
  obtain ⟨a1,vs1,rfl,g1,r1⟩:=ev_lst rs1 er1 h1
  rw [ev_int er2 h2]
  exact ⟨a1,k,vs1,rfl,rfl,g1,by omega,by omega,line_of (by rw [<-r1.length];exact hz),fun q' hq=>fin_new rs1 s1 sh hq (r1.rep _) q⟩
variable {es:List Expr} {tas:TAQ} {x:Str} {ps:Pos}
def qLen (ta:TAQ):TQ:=fun p Q=>ta p fun es p1=>∃e ds,es=[e]/\seqOf (lk p1 e)=some ds/\Q (.fz (.int ds.length)) p1
theorem evs1 {es:List Ev} {e:Ev} {vs:List V} (h:EvRs C.K p σ F es vs) (z:es=[e]):∃v,vs=[v]/\EvR C.K p σ F e v:=by
 subst z
 cases h with
 | cons h t=>cases t;exact ⟨_,rfl,h⟩
theorem evs2 {es:List Ev} {e f:Ev} {vs:List V} (h:EvRs C.K p σ F es vs) (z:es=[e,f]):∃v w,vs=[v,w]/\EvR C.K p σ F e v/\EvR C.K p σ F f w:=by
 subst z
 cases h with
 | cons h t=>
  cases t with
  | cons h' t=>cases t;exact ⟨_,_,rfl,h,h'⟩
theorem cb_len (hK:X.K=C.K) (hg:Gl X "len") (hm:X.mg "len"=none) (ha:PA X [e] (UpA C tas)) (he:starEach [e] X.env=(false,eval e X.env)::starEach [] X.env:=by rfl):PE X (.Call (.Name "len" ps) [e] [] pos) (Up C (qLen tas)):=
 QE.mk (pe_callB (call_lenK hK) hg hm PySem.boot_len ha (he:=he)) fun p σ F H R rs ht=>upA1 rs ht fun es1 p1 vs1 F1 H1 rs1 s1 sh er1 zq=>by
  obtain ⟨e1,ds,h1,h2,q⟩:=zq
  obtain ⟨v,rfl,er⟩:=evs1 er1 h1
  obtain ⟨a1,vs,rfl,g,r⟩:=ev_seq rs1 er h2
  exact ⟨a1,vs,rfl,g,fin_ev rs1 s1 sh (by rw [<-r.length];exact .int _) q⟩
def qI2 (f:Int->Int->Int) (ta:TAQ):TQ:=fun p Q=>ta p fun es p1=>∃e1 e2 i j,es=[e1,e2]/\lk p1 e1=.int i/\lk p1 e2=.int j/\Q (.fz (.int (f i j))) p1
theorem cb_min (hc:X.calm=true) (hg:Gl X "min") (hm:X.mg "min"=none) (ha:PA X [a,b] (UpA C tas)) (he:starEach [a,b] X.env=(false,eval a X.env)::starEach [b] X.env:=by rfl) (hpl:(backTo pos (starEach [b] X.env)).any (·.1)=false:=by rfl) :
  PE X (.Call (.Name "min" ps) [a,b] [] pos) (Up C (qI2 (fun i j=>if j<i then j else i) tas)):=
 QE.mk (pe_callB (call_min2 hc) hg hm (by kernel_rfl) ha (he:=he) (hpl:=hpl)) fun p σ F H R rs ht=>upA1 rs ht fun es1 p1 vs1 F1 H1 rs1 s1 sh er1 zq=>by
  obtain ⟨e1,e2,i,j,h0,h1,h2,q⟩:=zq
  obtain ⟨v,w,rfl,er,er'⟩:=evs2 er1 h0
  exact ⟨i,j,by rw [ev_int er h1,ev_int er' h2],fin_ev rs1 s1 sh (.int _) q⟩
theorem cb_max (hc:X.calm=true) (hg:Gl X "max") (hm:X.mg "max"=none) (ha:PA X [a,b] (UpA C tas)) (he:starEach [a,b] X.env=(false,eval a X.env)::starEach [b] X.env:=by rfl) (hpl:(backTo pos (starEach [b] X.env)).any (·.1)=false:=by rfl) :
  PE X (.Call (.Name "max" ps) [a,b] [] pos) (Up C (qI2 (fun i j=>if j > i then j else i) tas)):=
 QE.mk (pe_callB (call_max2 hc) hg hm (by kernel_rfl) ha (he:=he) (hpl:=hpl)) fun p σ F H R rs ht=>upA1 rs ht fun es1 p1 vs1 F1 H1 rs1 s1 sh er1 zq=>by
  obtain ⟨e1,e2,i,j,h0,h1,h2,q⟩:=zq
  obtain ⟨v,w,rfl,er,er'⟩:=evs2 er1 h0
  exact ⟨i,j,by rw [ev_int er h1,ev_int er' h2],fin_ev rs1 s1 sh (.int _) q⟩
def qDivmod (ta:TAQ):TQ:=fun p Q=>ta p fun es p1=>∃e1 e2 i j,es=[e1,e2]/\lk p1 e1=.int i/\lk p1 e2=.int j/\CDiv i j/\Q (.fz (.tup [.int (i / j),.int (i % j)])) p1
theorem cb_divmod (hg:Gl X "divmod") (hm:X.mg "divmod"=none) (ha:PA X [a,b] (UpA C tas)) (he:starEach [a,b] X.env=(false,eval a X.env)::starEach [b] X.env:=by rfl) (hpl:(backTo pos (starEach [b] X.env)).any (·.1)=false:=by rfl) :
  PE X (.Call (.Name "divmod" ps) [a,b] [] pos) (Up C (qDivmod tas)):=
 QE.mk (pe_callB call_divmod hg hm (by kernel_rfl) ha (he:=he) (hpl:=hpl)) fun p σ F H R rs ht=>upA1 rs ht fun es1 p1 vs1 F1 H1 rs1 s1 sh er1 zq=>by
  obtain ⟨e1,e2,i,j,h0,h1,h2,c,q⟩:=zq
  obtain ⟨v,w,rfl,er,er'⟩:=evs2 er1 h0
  refine ⟨i,j,by rw [ev_int er h1,ev_int er' h2],c,fun a ha=>?_⟩
  obtain ⟨z1,z2,z3⟩:=rs1.free ha
  exact fin_ev (rs1.put ha) (s1.trans (same_upd z1 _)) sh (.tup upd_same (.cons (.int _) (.cons (.int _) .nil))) q
def toI:D->Option Int
 | .int i=>some i
 | .bl b=>some (if b then 1 else 0)
 | _=>none
def qToI (ta:TAQ):TQ:=fun p Q=>ta p fun es p1=>∃e i,es=[e]/\toI (lk p1 e)=some i/\Q (.fz (.int i)) p1
theorem cb_int (hg:Gl X "int") (hm:X.mg "int"=none) (ha:PA X [e] (UpA C tas)) (he:starEach [e] X.env=(false,eval e X.env)::starEach [] X.env:=by rfl):PE X (.Call (.Name "int" ps) [e] [] pos) (Up C (qToI tas)):=
 QE.mk (pe_callTy call_int1 hg hm (by kernel_rfl) ha (he:=he)) fun p σ F H R rs ht=>upA1 rs ht fun es1 p1 vs1 F1 H1 rs1 s1 sh er1 zq=>by
  obtain ⟨e1,i,h1,h2,q⟩:=zq
  obtain ⟨v,rfl,er⟩:=evs1 er1 h1
  cases e2:lk p1 e1 with
  | int j=>rw [e2] at h2;cases h2;exact .inl ⟨i,by rw [ev_int er e2],fin_ev rs1 s1 sh (.int _) q⟩
  | bl k=>rw [e2] at h2;cases h2;exact .inr ⟨k,by rw [ev_bl er e2],fin_ev rs1 s1 sh (.int _) q⟩
  | _=>rw [e2] at h2;cases h2
def nListOf (ta:TAQ):TN:=fun p Q=>ta p fun es p1=>∃e ds,es=[e]/\seqOf (lk p1 e)=some ds/\Q (.ro ds) p1
theorem cb_list (hK:X.K=C.K) (hg:Gl X "list") (hm:X.mg "list"=none) (ha:PA X [e] (UpA C tas)) (he:starEach [e] X.env=(false,eval e X.env)::starEach [] X.env:=by rfl):PE X (.Call (.Name "list" ps) [e] [] pos) (UpN C (nListOf tas)):=
 QN.mk (pe_callTy (call_listK hK) hg hm (by kernel_rfl) ha (he:=he)) fun p σ F H R rs ht=>upA1 rs ht fun es1 p1 vs1 F1 H1 rs1 s1 sh er1 zq=>by
  obtain ⟨e1,ds,h1,h2,q⟩:=zq
  obtain ⟨v,rfl,er⟩:=evs1 er1 h1
  obtain ⟨a1,vs,rfl,g,r⟩:=ev_seq rs1 er h2
  exact ⟨a1,vs,rfl,g,fun l hl=>fin_new rs1 s1 sh hl r q⟩
def isTy (T:String):D->Option Bool
 | .int _=>some (T == "int")
 | .bl _=>some (T == "bool" || T == "int")
 | .lst _=>some (T == "list")
 | .tup _=>some (T == "tuple")
 | .str _=>some (T == "str")
 | .non=>some false
 | .dic _ _=>some false
 | .exb=>some false
 | _=>none
def tyName (T:String):Prop:=T="int"\/T="bool"\/T="list"\/T="tuple"\/T="str"
theorem isTy_ok {T:String} {e1:Ev} {v:V} {k:Bool} (hT:tyName T) (rs:RS C p σ F H) (er:EvR C.K p σ F e1 v) (h:isTy T (lk p e1)=some k):∃t,TyX C.K H v t/\PySem.W.kitOne C.K t (.type T)=some k:=by
 cases e:lk p e1 with
 | int i=>
  rw [e] at h;cases h
  rw [ev_int er e]
  rcases hT with rfl|rfl|rfl|rfl|rfl<;>exact ⟨_,.inl (.int _),by rfl⟩
 | bl i=>
  rw [e] at h;cases h
  rw [ev_bl er e]
  rcases hT with rfl|rfl|rfl|rfl|rfl<;>exact ⟨_,.inl (.bl _),by rfl⟩
 | lst xs=>
  rw [e] at h;cases h
  obtain ⟨a1,vs,rfl,g,r⟩:=ev_lst rs er e
  rcases hT with rfl|rfl|rfl|rfl|rfl<;>exact ⟨_,.inl (.lst g),by rfl⟩
 | tup xs=>
  rw [e] at h;cases h
  obtain ⟨a1,vs,rfl,g,r⟩:=ev_tup rs er e
  rcases hT with rfl|rfl|rfl|rfl|rfl<;>exact ⟨_,.inl (.tup g),by rfl⟩
 | str x=>
  rw [e] at h;cases h
  rw [ev_str er e]
  rcases hT with rfl|rfl|rfl|rfl|rfl<;>exact ⟨_,.inl (.str _),by rfl⟩
 | non=>
  rw [e] at h;cases h
  rw [ev_non er e]
  rcases hT with rfl|rfl|rfl|rfl|rfl<;>exact ⟨_,.inl (.non),by rfl⟩
 | dic ks ds=>
  rw [e] at h;cases h
  obtain ⟨a1,vs,rfl,g,l,r⟩:=ev_dic rs er e
  rcases hT with rfl|rfl|rfl|rfl|rfl<;>exact ⟨_,.inl (.dK g),by rfl⟩
 | exb=>
  rw [e] at h;cases h
  obtain ⟨a1,rfl,g⟩:=ev_exb rs er e
  rcases hT with rfl|rfl|rfl|rfl|rfl<;>exact ⟨_,.inr ⟨a1,a1,rfl,.inr ⟨g,rfl⟩⟩,by rfl⟩
 | _=>rw [e] at h;cases h
def qIsi (T:String) (ta:TAQ):TQ:=fun p Q=>ta p fun es p1=>∃e f k,es=[e,f]/\lk p1 f=.atom (.ty T)/\isTy T (lk p1 e)=some k/\Q (.fz (.bl k)) p1
theorem cb_isi {T:String} (hK:X.K=C.K) (hT:tyName T) (hg:Gl X "isinstance") (hm:X.mg "isinstance"=none) (ha:PA X [a,b] (UpA C tas)) (he:starEach [a,b] X.env=(false,eval a X.env)::starEach [b] X.env:=by rfl) (hpl:(backTo pos (starEach [b] X.env)).any (·.1)=false:=by rfl) :
  PE X (.Call (.Name "isinstance" ps) [a,b] [] pos) (Up C (qIsi T tas)):=
 QE.mk (pe_callB (call_isX hK) hg hm (by kernel_rfl) ha (he:=he) (hpl:=hpl)) fun p σ F H R rs ht=>upA1 rs ht fun es1 p1 vs1 F1 H1 rs1 s1 sh er1 zq=>by
  obtain ⟨e1,e2,k,h0,h1,h2,q⟩:=zq
  obtain ⟨v,w,rfl,er,er'⟩:=evs2 er1 h0
  obtain ⟨t,ty,ek⟩:=isTy_ok hT rs1 er h2
  exact ⟨v,w,.type T,t,k,rfl,by rw [ev_atom er' h1];exact fun u h=>h,ty,ek,fin_ev rs1 s1 sh (.bl _) q⟩
theorem mut_at {i:Nat} {xs:List D} (rs:RS C p σ F H) (h:mutL p i=some xs):∃s a vs,p[i]? = some (some s)/\s.mu=true/\σ[i]? = some (some (.ref a))/\H a=some (.lst vs)/\RepL C.K F xs vs/\∀ys,putL p i ys=p.set i (some (s.put ys)):=by
 unfold mutL at h
 split at h
 ·rename_i ys e
  cases h
  obtain ⟨v,e1,a,vs,rfl,z1,z2,z3,z4⟩:=rs.sl i _ e
  exact ⟨_,a,vs,e,rfl,e1,z3,z4,fun ys=>by unfold putL;rw [e]⟩
 ·rename_i ys e
  cases h
  obtain ⟨v,e1,a,vs,rfl,z1,z2,z3,z4⟩:=rs.sl i _ e
  exact ⟨_,a,vs,e,rfl,e1,z3,z4,fun ys=>by unfold putL;rw [e]⟩
 ·cases h
theorem RS.put' {i:Nat} {xs ys:List D} {us:List V} {a:Addr} (rs:RS C p σ F H) (h:mutL p i=some xs) (ha:σ[i]? = some (some (.ref a))) (r:RepL C.K F ys us):RS C (putL p i ys) σ F (upd H a (.lst us))/\Shp p (putL p i ys):=by
 obtain ⟨s,a',vs,h1,h2,h3,h4,h5,h6⟩:=mut_at rs h
 rw [ha] at h3;cases h3
 rw [h6]
 exact rs.write h1 h2 ha r
theorem mut_var {i:Nat} {xs:List D} {Q:V->Hp->Prop} (rs:RS C p σ F H) (h:mutL p i=some xs) (k:∀a,σ[i]? = some (some (.ref a))->tyV C.K "list" (.ref a) H/\Q (.ref a) H):tVar i σ H fun x H1=>tyV C.K "list" x H1/\Q x H1:=by
 obtain ⟨s,a,vs,h1,h2,h3,h4,h5,h6⟩:=mut_at rs h
 exact ⟨.ref a,h3,k a h3⟩
theorem mut_ty {i:Nat} {xs:List D} {a:Addr} (rs:RS C p σ F H) (h:mutL p i=some xs) (ha:σ[i]? = some (some (.ref a))):tyV C.K "list" (.ref a) H:=by
 obtain ⟨s,a',vs,h1,h2,h3,h4,h5,h6⟩:=mut_at rs h
 rw [ha] at h3;cases h3
 exact .inl ⟨rfl,vs,.of h4⟩
def qApp (i:Nat) (ta:TAQ):TQ:=fun p Q=>(mutL p i).isSome=true/\ta p fun es p2=>∃x xs,es=[.fz x]/\mutL p2 i=some xs/\xs.length<100000/\Q (.fz .non) (putL p2 i (xs++[x]))
theorem m_append {o:Expr} {i:Nat} {apos:Pos} (hK:X.K=C.K) (ho:PE X o (tVar i)) (ha:PA X [e] (UpA C tas))
  (hbase:attributeBase o "append" X.env (eval o X.env)=eval o X.env:=by rfl)
  (hfew:((backTo pos (starEach [e] X.env)).all (fun x=>!x.1) && (backToKw pos (keywordEach [] X.env)).all (fun x=>x.1.isSome)
   && decide ([e].length+([]:List Keyword).length+(if ([]:List Keyword).isEmpty then 0 else 1)<30))=true:=by rfl)
  (hline:(apos.endLine == pos.line)=true:=by rfl) (hs:starEach [e] X.env=(false,eval e X.env)::starEach [] X.env:=by rfl):PE X (.Call (.Attribute o "append" apos) [e] [] pos) (Up C (qApp i tas)):=by
 refine QE.mk (pe_bm PySem.F.plainAttrs_list PySem.F.slot_list_append PySem.F.type_list_append mt_append ho ha hbase hfew hline hs rfl) fun p σ F H R rs ht=>?_
 obtain ⟨h0,ht⟩:=ht
 obtain ⟨xs0,h0⟩:=Option.isSome_iff_exists.mp h0
 rw [hK]
 refine mut_var rs h0 fun a1 hσ=>⟨mut_ty rs h0 hσ,upA1 rs ht fun es2 p2 vs2 F2 H2 rs2 s2 sh2 er2 ⟨x,xs,h2,h3,h4,q⟩=>?_⟩
 obtain ⟨v,rfl,er⟩:=evs1 er2 h2
 obtain ⟨s,a',vs,g1,g2,g3,g4,g5,g6⟩:=mut_at rs2 h3
 rw [hσ] at g3;cases g3
 obtain ⟨rs3,sh3⟩:=rs2.put' h3 hσ (g5.append (.cons er .nil))
 exact ⟨a1,vs,v,rfl,rfl,g4,by rw [<-g5.length];exact Nat.lt_of_lt_of_le h4 (by decide),fin_ev rs3 s2 (sh2.trans sh3) .non q⟩
def qRevM (i:Nat):TQ:=fun p Q=>∃xs,mutL p i=some xs/\Q (.fz .non) (putL p i xs.reverse)
theorem m_reverse {o:Expr} {i:Nat} {apos:Pos} (hK:X.K=C.K) (ho:PE X o (tVar i)) (hbase:attributeBase o "reverse" X.env (eval o X.env)=eval o X.env:=by rfl) (hline:(apos.endLine == pos.line)=true:=by rfl):PE X (.Call (.Attribute o "reverse" apos) [] [] pos) (Up C (qRevM i)):=by
 refine QE.mk (pe_bm0 PySem.F.plainAttrs_list PySem.F.slot_list_reverse PySem.F.type_list_reverse mt_reverse ho hbase hline) fun p σ F H R rs ht=>?_
 obtain ⟨xs,h3,q⟩:=ht
 rw [hK]
 refine mut_var rs h3 fun a1 hσ=>⟨mut_ty rs h3 hσ,?_⟩
 obtain ⟨s,a',vs,g1,g2,g3,g4,g5,g6⟩:=mut_at rs h3
 rw [hσ] at g3;cases g3
 obtain ⟨rs3,sh3⟩:=rs.put' h3 hσ g5.reverse
 exact ⟨a1,vs,rfl,rfl,g4,fin_ev rs3 (.refl _) sh3 .non q⟩
end
structure PEnds where
 nx:PSt->Prop
 rt:Rt->PSt->Prop
 bk:PSt->Prop:=fun _=>False
 ct:PSt->Prop:=fun _=>False
abbrev TSQ:=PEnds->PSt->Prop
def PEnds.dn (C:Pc) (F0:Hp) (E:PEnds):Ends where
 nx:=fun σ H=>∃p F,RS C p σ F H/\Same F0 F/\E.nx p
 rt:=fun v H=>∃r p σ F,RS C p σ F H/\Same F0 F/\RtR C p σ F H r v/\E.rt r p
 bk:=fun σ H=>∃p F,RS C p σ F H/\Same F0 F/\E.bk p
 ct:=fun σ H=>∃p F,RS C p σ F H/\Same F0 F/\E.ct p
structure Ends.Le (A B:Ends):Prop where
 nx:∀σ H,A.nx σ H->B.nx σ H
 rt:∀v H,A.rt v H->B.rt v H
 bk:∀σ H,A.bk σ H->B.bk σ H
 ct:∀σ H,A.ct σ H->B.ct σ H
theorem Ends.Le.refl (A:Ends):Ends.Le A A:=⟨fun _ _ h=>h,fun _ _ h=>h,fun _ _ h=>h,fun _ _ h=>h⟩
theorem Ends.Le.trans {A B C:Ends} (a:Ends.Le A B) (b:Ends.Le B C):Ends.Le A C:=⟨fun _ _ h=>b.nx _ _ (a.nx _ _ h),fun _ _ h=>b.rt _ _ (a.rt _ _ h),fun _ _ h=>b.bk _ _ (a.bk _ _ h),fun _ _ h=>b.ct _ _ (a.ct _ _ h)⟩
theorem dn_le {C:Pc} {F F1:Hp} {E:PEnds} (s:Same F F1):(E.dn C F1).Le (E.dn C F):=⟨fun _ _ zq=>by obtain ⟨p,G,a,b,c⟩:=zq;exact ⟨p,G,a,s.trans b,c⟩,fun _ _ zq=>by obtain ⟨r,p,σ,G,a,b,c⟩:=zq;exact ⟨r,p,σ,G,a,s.trans b,c⟩,fun _ _ zq=>by obtain ⟨p,G,a,b,c⟩:=zq;exact ⟨p,G,a,s.trans b,c⟩,fun _ _ zq=>by obtain ⟨p,G,a,b,c⟩:=zq;exact ⟨p,G,a,s.trans b,c⟩⟩
def UpS (C:Pc) (t:TSQ):TS:=fun De σ H=>∃p F E,RS C p σ F H/\t E p/\(E.dn C F).Le De
def nbr (p:PSt) (i:Nat):Bool:=match p[i]? with
 | some (some (.bor _))=>false
 | _=>true
section
variable {X:Cx} {C:Pc} {a b c e:Expr} {ta tb tc:TQ} {pos:Pos} {K:PySem.W.Frag} {p:PSt} {σ:St} {F H:Hp} {st:Stmt} {rest:List Stmt} {t u:TSQ}
theorem SP.le {pins:List (Addr × Obj)} {A B:Ends} {f:Flow} {s':Shared} (l:Ends.Le A B) (h:SP X pins A f s'):SP X pins B f s':=by
 cases f with
 | next=>obtain ⟨σ',H',I,q⟩:=h;exact ⟨σ',H',I,l.nx _ _ q⟩
 | brk=>obtain ⟨σ',H',I,q⟩:=h;exact ⟨σ',H',I,l.bk _ _ q⟩
 | cont=>obtain ⟨σ',H',I,q⟩:=h;exact ⟨σ',H',I,l.ct _ _ q⟩
 | ret u=>obtain ⟨v,σ',H',I,r,q⟩:=h;exact ⟨v,σ',H',I,r,l.rt _ _ q⟩
theorem QS.mk {t:TS} {t':TSQ} (h:PS X st t) (hi:∀p σ F H E,RS C p σ F H->t' E p->t (E.dn C F) σ H):PS X st (UpS C t'):=fun pins s σ H De I zq=>by
 obtain ⟨p,F,E,rs,ht,l⟩:=zq
 exact thn (h pins s σ H _ I (hi p σ F H E rs ht)) fun _ _ q=>q.le l
theorem QSs.mk {sts:List Stmt} {t:TS} {t':TSQ} (h:PSs X sts t) (hi:∀p σ F H E,RS C p σ F H->t' E p->t (E.dn C F) σ H):PSs X sts (UpS C t'):=fun pins s σ H De I zq=>by
 obtain ⟨p,F,E,rs,ht,l⟩:=zq
 exact thn (h pins s σ H _ I (hi p σ F H E rs ht)) fun _ _ q=>q.le l
def qNext:TSQ:=fun E p=>E.nx p
def qSeq (t u:TSQ):TSQ:=fun E p=>t { E with nx:=u E } p
theorem s_nil:PSs X [] (UpS C qNext):=QSs.mk pss_nil fun p σ F H E rs q=>⟨p,F,rs,.refl _,q⟩
theorem s_s (h1:PS X st (UpS C t)) (h2:PSs X rest (UpS C u)):PSs X (st::rest) (UpS C (qSeq t u)):=
 QSs.mk (pss_cons h1 h2) fun p σ F H E rs q=>⟨p,F,_,rs,q,⟨fun σ1 H1 zq=>by obtain ⟨p1,F1,rs1,s1,q1⟩:=zq;exact ⟨p1,F1,E,rs1,q1,dn_le s1⟩,fun _ _ h=>h,fun _ _ h=>h,fun _ _ h=>h⟩⟩
theorem s_one (h1:PS X st (UpS C t)):PSs X [st] (UpS C t):=pss_one h1
def qDrop (t:TQ):TSQ:=fun E p=>t p fun _ p1=>E.nx p1
theorem s_H (he:PE X e (Up C ta)) (hs:swapsWith e none pos.line X.env=pure false:=by rfl):PS X (.Expr e pos) (UpS C (qDrop ta)):=
 QS.mk (ps_expr he hs) fun p σ F H E rs ht=>up1 rs ht fun e1 p1 v1 F1 H1 rs1 s1 sh er1 q=>⟨p1,F1,rs1,s1,q⟩
def qRet (t:TN):TSQ:=fun E p=>t p E.rt
theorem s_ret {t:TN} (he:PE X e (UpN C t)):PS X (.Return (some e) pos) (UpS C (qRet t)):=
 QS.mk (ps_ret he) fun p σ F H E rs ht=>upN1 rs ht fun r p1 v1 F1 H1 rs1 s1 sh rr q=>⟨r,p1,σ,F1,rs1,s1,rr,q⟩
def qIfS (c:TTQ) (t u:TSQ):TSQ:=fun E p=>c p fun b p1=>if b=true then t E p1 else u E p1
theorem s_if {c:Expr} {a b:List Stmt} {tc:TTQ} (hc:PT X c (UpT C tc)) (ha:PSs X a (UpS C t)) (hb:PSs X b (UpS C u)):PS X (.If c a b pos) (UpS C (qIfS tc t u)):=
 QS.mk (ps_if hc ha hb) fun p σ F H E rs ht=>upT1 rs ht fun k p1 F1 H1 rs1 s1 sh q=>ite_imp (fun q=>⟨p1,F1,E,rs1,q,dn_le s1⟩) (fun q=>⟨p1,F1,E,rs1,q,dn_le s1⟩) q
def qNever:TSQ:=fun _ _=>False
theorem s_J:PS X st (UpS C qNever):=fun _ _ _ _ _ _ ⟨_,_,_,_,h,_⟩=>h.elim
theorem RS.clear {i:Nat} (rs:RS C p σ F H) (h:nbr p i=true):RS C (p.set i none) σ F H:=by
 refine ⟨rs.sub,rs.ext,rs.new,rs.keep,rs.grow,by rw [List.length_set];exact rs.len,fun j s e=>?_,fun j k s s' x hjk e1 m1 e2 m2 x1 x2=>?_,fun q hq=>?_⟩
 ·by_cases hj:i=j
  ·subst hj
   rw [List.getElem?_set] at e
   simp at e
  ·rw [List.getElem?_set_ne hj] at e;exact rs.sl j s e
 ·have back:∀(j:Nat) (s:Sl),(p.set i none)[j]? = some (some s)->p[j]? = some (some s):=fun j s e=>by
   by_cases hj:i=j
   ·subst hj;rw [List.getElem?_set] at e;simp at e
   ·rw [List.getElem?_set_ne hj] at e;exact e
  exact rs.apart j k s s' x hjk (back _ _ e1) m1 (back _ _ e2) m2 x1 x2
 ·obtain ⟨z1,xs,z2⟩:=rs.pin q hq
  refine ⟨z1,xs,?_⟩
  by_cases hj:i=q.1
  ·rw [hj] at h
   unfold nbr at h
   rw [z2] at h;cases h
  ·rw [List.getElem?_set_ne hj];exact z2
theorem RS.setD {i:Nat} {x:D} {v:V} (rs:RS C p σ F H) (h:nbr p i=true) (r:Rep C.K F x v):RS C (p.set i (some (.d x))) (σ.set i (some v)) F H:=by
 have ne:∀q∈C.bs,i≠q.1:=fun q hq z=>by
  obtain ⟨z1,xs,z2⟩:=rs.pin q hq
  rw [z] at h
  unfold nbr at h
  rw [z2] at h;cases h
 refine ⟨rs.sub,rs.ext,rs.new,rs.keep,rs.grow,by rw [List.length_set,List.length_set];exact rs.len,fun j s e=>?_,fun j k s s' y hjk e1 m1 e2 m2 x1 x2=>?_,fun q hq=>?_⟩
 ·by_cases hj:i=j
  ·subst hj
   have hi:i<p.length:=by
    have:=(List.getElem?_eq_some_iff.mp e).1
    rwa [List.length_set] at this
   rw [List.getElem?_set_self hi] at e
   cases e
   exact ⟨v,List.getElem?_set_self (by rw [<-rs.len];exact hi),r⟩
  ·rw [List.getElem?_set_ne hj] at e
   rw [List.getElem?_set_ne hj]
   exact rs.sl j s e
 ·have back:∀(j:Nat) (s:Sl),(p.set i (some (.d x)))[j]? = some (some s)->s.mu=true->i≠j/\p[j]? = some (some s):=fun j s e m=>by
   by_cases hj:i=j
   ·subst hj
    have hi:i<p.length:=by
     have:=(List.getElem?_eq_some_iff.mp e).1
     rwa [List.length_set] at this
    rw [List.getElem?_set_self hi] at e
    cases e;cases m
   ·rw [List.getElem?_set_ne hj] at e;exact ⟨hj,e⟩
  obtain ⟨n1,f1⟩:=back j s e1 m1
  obtain ⟨n2,f2⟩:=back k s' e2 m2
  rw [List.getElem?_set_ne n1] at x1
  rw [List.getElem?_set_ne n2] at x2
  exact rs.apart j k s s' y hjk f1 m1 f2 m2 x1 x2
 ·obtain ⟨z1,xs,z2⟩:=rs.pin q hq
  exact ⟨by rw [List.getElem?_set_ne (ne q hq)];exact z1,xs,by rw [List.getElem?_set_ne (ne q hq)];exact z2⟩
theorem RS.setO {i:Nat} {xs:List D} {vs:List V} {x:Addr} (rs:RS C p σ F H) (h:nbr p i=true) (h1:F x=none) (h2:C.H0 x=none) (h3:H x=some (.lst vs)) (h4:RepL C.K F xs vs) (h5:Mine p σ x) :
  RS C (p.set i (some (.own xs))) (σ.set i (some (.ref x))) F H:=by
 have ne:∀q∈C.bs,i≠q.1:=fun q hq z=>by
  obtain ⟨z1,xs,z2⟩:=rs.pin q hq
  rw [z] at h
  unfold nbr at h
  rw [z2] at h;cases h
 have back:∀(j:Nat) (s:Sl),(p.set i (some (.own xs)))[j]? = some (some s)->(i=j/\i<p.length/\s=.own xs)\/(i≠j/\p[j]? = some (some s)):=fun j s e=>by
  by_cases hj:i=j
  ·subst hj
   have hi:i<p.length:=by
    have:=(List.getElem?_eq_some_iff.mp e).1
    rwa [List.length_set] at this
   rw [List.getElem?_set_self hi] at e
   cases e
   exact .inl ⟨rfl,hi,rfl⟩
  ·rw [List.getElem?_set_ne hj] at e;exact .inr ⟨hj,e⟩
 refine ⟨rs.sub,rs.ext,rs.new,rs.keep,rs.grow,by rw [List.length_set,List.length_set];exact rs.len,fun j s e=>?_,fun j k s s' y hjk e1 m1 e2 m2 x1 x2=>?_,fun q hq=>?_⟩
 ·rcases back j s e with ⟨rfl,hi,rfl⟩|⟨hj,e⟩
  ·exact ⟨.ref x,List.getElem?_set_self (by rw [<-rs.len];exact hi),x,vs,rfl,h1,h2,h3,h4⟩
  ·rw [List.getElem?_set_ne hj]
   exact rs.sl j s e
 ·rcases back j s e1 with ⟨rfl,hi,rfl⟩|⟨hj,f1⟩
  ·rcases back k s' e2 with ⟨rfl,_,rfl⟩|⟨hk,f2⟩
   ·exact hjk rfl
   ·rw [List.getElem?_set_self (by rw [<-rs.len];exact hi)] at x1
    cases x1
    rw [List.getElem?_set_ne hk] at x2
    exact h5 k s' f2 m2 x2
  ·rcases back k s' e2 with ⟨rfl,hi,rfl⟩|⟨hk,f2⟩
   ·rw [List.getElem?_set_self (by rw [<-rs.len];exact hi)] at x2
    cases x2
    rw [List.getElem?_set_ne hj] at x1
    exact h5 j s f1 m1 x1
   ·rw [List.getElem?_set_ne hj] at x1
    rw [List.getElem?_set_ne hk] at x2
    exact rs.apart j k s s' y hjk f1 m1 f2 m2 x1 x2
 ·obtain ⟨z1,ys,z2⟩:=rs.pin q hq
  exact ⟨by rw [List.getElem?_set_ne (ne q hq)];exact z1,ys,by rw [List.getElem?_set_ne (ne q hq)];exact z2⟩
def qRetO (i:Nat):TSQ:=fun E p=>∃xs,p[i]? = some (some (.own xs))/\E.rt (.ro xs) (p.set i none)
theorem s_retO {i:Nat} (he:PE X e (tVar i)):PS X (.Return (some e) pos) (UpS C (qRetO i)):=QS.mk (ps_ret he) fun p σ F H E rs zq=>by
 obtain ⟨xs,h,q⟩:=zq
 obtain ⟨v,e1,x,vs,rfl,z1,z2,z3,z4⟩:=rs.sl i _ h
 have hn:nbr p i=true:=by unfold nbr;rw [h]
 have mi:Mine (p.set i none) σ x:=fun j s e m z=>by
  by_cases hj:i=j
  ·subst hj;rw [List.getElem?_set] at e;simp at e
  ·rw [List.getElem?_set_ne hj] at e
   exact rs.apart j i s _ x (Ne.symm hj) e m h rfl z e1
 exact ⟨.ref x,e1,.ro xs,_,σ,F,rs.clear hn,.refl _,⟨x,vs,rfl,z1,z2,z3,z4,mi⟩,q⟩
def qSet (i:Nat) (t:TQ):TSQ:=fun E p=>t p fun e p1=>∃x,e=.fz x/\nbr p1 i=true/\E.nx (p1.set i (some (.d x)))
theorem s_set {i:Nat} {x:Str} {pos':Pos} (hN:X.N.Nodup) (hi:X.N[i]? = some x) (hx:Loc X.env.scope x) (he:PE X e (Up C ta)) (hs:swapsWith e (some (.Name x pos')) pos.line X.env=pure false:=by rfl) (hf:X.fn x=true\/X.env.scope.names.lookup x=some .local:=by first|exact .inl rfl|exact .inr rfl|assumption) :
  PS X (.Assign [.Name x pos'] e pos) (UpS C (qSet i ta)):=
 QS.mk (ps_set hN hi hx he hs hf) fun p σ F H E rs ht=>up1 rs ht fun e1 p1 v1 F1 H1 rs1 s1 sh er1 zq=>by obtain ⟨y,hy,hn,q⟩:=zq;exact ⟨_,F1,rs1.setD hn (by subst hy;exact er1),s1,q⟩
def qSetN (i:Nat) (t:TN):TSQ:=fun E p=>t p fun r p1=>nbr p1 i=true/\E.nx (p1.set i (some r.sl))
theorem s_setN {i:Nat} {x:Str} {t:TN} {pos':Pos} (hN:X.N.Nodup) (hi:X.N[i]? = some x) (hx:Loc X.env.scope x) (he:PE X e (UpN C t)) (hs:swapsWith e (some (.Name x pos')) pos.line X.env=pure false:=by rfl) (hf:X.fn x=true\/X.env.scope.names.lookup x=some .local:=by first|exact .inl rfl|exact .inr rfl|assumption) :
  PS X (.Assign [.Name x pos'] e pos) (UpS C (qSetN i t)):=
 QS.mk (ps_set hN hi hx he hs hf) fun p σ F H E rs ht=>upN1 rs ht fun r p1 v1 F1 H1 rs1 s1 sh rr zq=>by
  obtain ⟨hn,q⟩:=zq
  cases r with
  | rd y=>exact ⟨_,F1,rs1.setD hn rr,s1,q⟩
  | ro xs=>
   obtain ⟨x,vs,rfl,z1,z2,z3,z4,z5⟩:=rr
   exact ⟨_,F1,rs1.setO hn z1 z2 z3 z4 z5,s1,q⟩
def qAug (i:Nat) (g:Int->Int->Int) (Cn:Int->Int->Prop) (t:TQ):TSQ:=fun E p=>∃n,p[i]? = some (some (.d (.int n)))/\t p fun e p1=>∃j,lk p1 e=.int j/\Cn n j/\nbr p1 i=true/\E.nx (p1.set i (some (.d (.int (g n j)))))
theorem s_aug {i:Nat} {x:Str} {op:Operator} {g:Int->Int->Int} {Cn:Int->Int->Prop} {r:R2} {pos':Pos} (ho:OpR X (inplaceOp op) r) (hr:∀i j H Q,Cn i j->Q (.int (g i j)) H->r (.int i) (.int j) H Q) (hN:X.N.Nodup) (hi:X.N[i]? = some x) (hx:Loc X.env.scope x) (he:PE X e (Up C ta)) (hf:X.fn x=true\/X.env.scope.names.lookup x=some .local:=by first|exact .inl rfl|exact .inr rfl|assumption) :
  PS X (.AugAssign (.Name x pos') op e pos) (UpS C (qAug i g Cn ta)):=
 QS.mk (ps_aug hN hi hx he ho hf) fun p σ F H E rs zq=>by
  obtain ⟨n,h0,ht⟩:=zq
  obtain ⟨v,e1,r1⟩:=rs.sl i _ h0
  cases r1
  exact ⟨.int n,e1,up1 rs ht fun e1 p1 v1 F1 H1 rs1 s1 sh er1 zq=>by
   obtain ⟨j,hj,hc,hn,q⟩:=zq
   rw [ev_int er1 hj]
   exact hr n j H1 _ hc ⟨_,F1,rs1.setD hn (.int _),s1,q⟩⟩
def tr2 (i j:Int):Prop:=True
theorem s_M {i:Nat} {x:Str} {pos':Pos} (hN:X.N.Nodup) (hi:X.N[i]? = some x) (hx:Loc X.env.scope x) (he:PE X e (Up C ta)) (hf:X.fn x=true\/X.env.scope.names.lookup x=some .local:=by first|exact .inl rfl|exact .inr rfl|assumption) :
  PS X (.AugAssign (.Name x pos') .Add e pos) (UpS C (qAug i (fun a b=>a+b) tr2 ta)):=s_aug iop_add (fun i j H Q _ q=>⟨i,j,rfl,rfl,q⟩) hN hi hx he hf
theorem s_K {i:Nat} {x:Str} {pos':Pos} (hN:X.N.Nodup) (hi:X.N[i]? = some x) (hx:Loc X.env.scope x) (he:PE X e (Up C ta)) (hf:X.fn x=true\/X.env.scope.names.lookup x=some .local:=by first|exact .inl rfl|exact .inr rfl|assumption) :
  PS X (.AugAssign (.Name x pos') .Sub e pos) (UpS C (qAug i (fun a b=>a - b) tr2 ta)):=s_aug iop_sub (fun i j H Q _ q=>⟨i,j,rfl,rfl,q⟩) hN hi hx he hf
theorem s_N {i:Nat} {x:Str} {pos':Pos} (hN:X.N.Nodup) (hi:X.N[i]? = some x) (hx:Loc X.env.scope x) (he:PE X e (Up C ta)) (hf:X.fn x=true\/X.env.scope.names.lookup x=some .local:=by first|exact .inl rfl|exact .inr rfl|assumption) :
  PS X (.AugAssign (.Name x pos') .Mult e pos) (UpS C (qAug i (fun a b=>a * b) CMul ta)):=s_aug iop_mul (fun i j H Q c q=>⟨i,j,rfl,rfl,c,q⟩) hN hi hx he hf
def qSetI (i:Nat) (te tk:TQ):TSQ:=fun E p=>te p fun ev p1=>(mutL p1 i).isSome=true/\tk p1 fun kv p2=>∃x xs k j,ev=.fz x/\mutL p2 i=some xs/\lk p2 kv=.int k/\ixN xs.length k=some j/\E.nx (putL p2 i (xs.set j x))
theorem s_setI {i : Nat} {o k : Expr} {te tk : TQ} {pt : Pos} (he : PE X e (Up C te)) (ho : PE X o (tVar i)) (hk : PE X k (Up C tk))
    (ha : ∀ v, assign (.Subscript o k pt) X.env v = (do
      let ov ← holding [v] (eval o X.env)
      let iv ← holding [v, ov] (eval k X.env)
      standAt pt
      holding [v, ov, iv] (setItem ov iv v)
      release [v, ov, iv] []) := by intro _; rfl)
    (hs : swapsWithSole [.Subscript o k pt] e pos.line X.env = pure false := by rfl) (hw : swappedStores [.Subscript o k pt] e X.env = pure none := by rfl)
    (h1 : (assignEach [.Subscript o k pt] X.env).map (·.2) = [assign (.Subscript o k pt) X.env] := by rfl) :
    PS X (.Assign [.Subscript o k pt] e pos) (UpS C (qSetI i te tk)) :=
  QS.mk (ps_asg he (pg_sub ho hk set_list ha) hs hw h1) fun p σ F H E rs ht => up1 rs ht fun e1 p1 v1 F1 H1 rs1 s1 sh er1 zq=>by
    obtain ⟨h0, ht⟩:=zq
    obtain ⟨xs0, h0⟩ := Option.isSome_iff_exists.mp h0
    obtain ⟨s, x, vs, g1, g2, g3, g4, g5, g6⟩ := mut_at rs1 h0
    refine ⟨.ref x, g3, up1 rs1 ht fun e2 p2 v2 F2 H2 rs2 s2 sh2 er2 ⟨y, xs, k, j, hy, hm, hk, hj, q⟩ => ?_⟩
    obtain ⟨s', x', vs', k1, k2, k3, k4, k5, k6⟩ := mut_at rs2 hm
    rw [g3] at k3; cases k3
    subst hy
    obtain ⟨rs3, sh3⟩ := rs2.put' hm g3 (RepL.set (Rep.mono s2 er1) j k5)
    exact ⟨x, vs', k, j, rfl, ev_int er2 hk, k4, by rw [← k5.length]; exact hj, _, F2, rs3, s1.trans s2, q⟩
end
abbrev TGQ:=D->PSt->(PSt->Prop)->Prop
abbrev TGsQ:=List D->PSt->(PSt->Prop)->Prop
def XG (C:Pc) (F:Hp) (R:PSt->Prop) (σ1:St) (H1:Hp):Prop:=∃p1 F1,RS C p1 σ1 F1 H1/\Same F F1/\R p1
def UpG (C:Pc) (g:TGQ):TG:=fun v σ H Q=>∃p F x R,RS C p σ F H/\Rep C.K F x v/\g x p R/\∀σ1 H1,XG C F R σ1 H1->Q σ1 H1
def UpGs (C:Pc) (g:TGsQ):TGs:=fun vs σ H Q=>∃p F xs R,RS C p σ F H/\RepL C.K F xs vs/\g xs p R/\∀σ1 H1,XG C F R σ1 H1->Q σ1 H1
section
variable {X:Cx} {C:Pc} {a b c e:Expr} {ta tb tc:TQ} {pos:Pos} {K:PySem.W.Frag} {p:PSt} {σ:St} {F H:Hp} {st:Stmt} {rest:List Stmt} {t u:TSQ}
theorem QG.mk {tg:Expr} {g:TG} {g':TGQ} (h:PG X tg g) (hi:∀p σ F H x v R,RS C p σ F H->Rep C.K F x v->g' x p R->g v σ H (XG C F R)):PG X tg (UpG C g'):=fun pins s σ H v u Q I r zq=>by
 obtain ⟨p,F,x,R,rs,rx,hg,hq⟩:=zq
 exact thn (h pins s σ H v u _ I r (hi p σ F H x v R rs rx hg)) fun _ _ zq=>by obtain ⟨σ1,H1,I1,q1⟩:=zq;exact ⟨σ1,H1,I1,hq σ1 H1 q1⟩
theorem QGs.mk {tgs:List Expr} {g:TGs} {g':TGsQ} (h:PGs X tgs g) (hi:∀p σ F H xs vs R,RS C p σ F H->RepL C.K F xs vs->g' xs p R->g vs σ H (XG C F R)):PGs X tgs (UpGs C g'):=fun pins s σ H v u Q I r zq=>by
 obtain ⟨p,F,x,R,rs,rx,hg,hq⟩:=zq
 exact thn (h pins s σ H v u _ I r (hi p σ F H x v R rs rx hg)) fun _ _ zq=>by obtain ⟨σ1,H1,I1,q1⟩:=zq;exact ⟨σ1,H1,I1,hq σ1 H1 q1⟩
def gqName (i:Nat):TGQ:=fun x p Q=>nbr p i=true/\Q (p.set i (some (.d x)))
theorem g_name {i:Nat} {x:Str} (hN:X.N.Nodup) (hi:X.N[i]? = some x) (hx:Loc X.env.scope x) (hf:X.fn x=true\/X.env.scope.names.lookup x=some .local:=by first|exact .inl rfl|exact .inr rfl|assumption):PG X (.Name x pos) (UpG C (gqName i)):=
 QG.mk (pg_name hN hi hx hf) fun p σ F H x v R rs rx zq=>by obtain ⟨hn,q⟩:=zq;exact ⟨_,F,rs.setD hn rx,.refl _,q⟩
def gqNil:TGsQ:=fun xs p Q=>xs=[]/\Q p
def gqCons (g:TGQ) (gs:TGsQ):TGsQ:=fun xs p Q=>∃x r,xs=x::r/\g x p fun p1=>gs r p1 Q
theorem gs_nil:PGs X [] (UpGs C gqNil):=QGs.mk pgs_nil fun p σ F H xs vs R rs rx zq=>by
 obtain ⟨h,q⟩:=zq
 subst h;cases rx
 exact ⟨rfl,p,F,rs,.refl _,q⟩
theorem gs_cons {e:Expr} {es:List Expr} {g:TGQ} {gs:TGsQ} (h1:PG X e (UpG C g)) (h2:PGs X es (UpGs C gs))
  (hs:(assignEach (e::es) X.env).map (·.2)=assign e X.env::(assignEach es X.env).map (·.2):=by rfl):PGs X (e::es) (UpGs C (gqCons g gs)):=
 QGs.mk (pgs_cons h1 h2 hs) fun p σ F H xs vs R rs rx zq=>by
  obtain ⟨x,r,hx,q⟩:=zq
  subst hx
  cases rx with
  | cons r1 r2=>
   refine ⟨_,_,rfl,p,F,x,_,rs,r1,q,fun σ1 H1 ⟨p1,F1,rs1,s1,q1⟩=>?_⟩
   exact ⟨p1,F1,r,R,rs1,r2.mono s1,q1,fun σ2 H2 zq=>by obtain ⟨p2,F2,rs2,s2,q2⟩:=zq;exact ⟨p2,F2,rs2,s1.trans s2,q2⟩⟩
def gqTup (n:Nat) (gs:TGsQ):TGQ:=fun x p Q=>∃xs,x=.tup xs/\xs.length=n/\gs xs p Q
theorem g_tup {es:List Expr} {k:Nat} {gs:TGsQ} {n:Nat} (hK:X.K=C.K) (hc:X.calm=true) (h:PGs X es (UpGs C gs)) (hn:(assignEach es X.env).length=n:=by rfl) (hst:(assignEach es X.env).findIdx? (·.1)=none:=by rfl):PG X (.Tuple es k pos) (UpG C (gqTup n gs)):=
 QG.mk (pg_tupK hK hc h hn hst) fun p σ F H x v R rs rx zq=>by
  obtain ⟨xs,hx,hl,q⟩:=zq
  subst hx
  cases rx with
  | tup q1 r1=>exact ⟨_,_,rfl,.of (rs.sub _ _ q1),by rw [<-r1.length];exact hl,p,F,xs,R,rs,r1,q,fun _ _ h=>h⟩
def qAsg (t:TQ) (g:TGQ):TSQ:=fun E p=>t p fun e p1=>∃x,e=.fz x/\g x p1 E.nx
theorem s_asg {tg e:Expr} {g:TGQ} (he:PE X e (Up C ta)) (hg:PG X tg (UpG C g)) (hs:swapsWithSole [tg] e pos.line X.env=pure false:=by rfl) (hw:swappedStores [tg] e X.env=pure none:=by rfl)
  (h1:(assignEach [tg] X.env).map (·.2)=[assign tg X.env]:=by rfl):PS X (.Assign [tg] e pos) (UpS C (qAsg ta g)):=
 QS.mk (ps_asg he hg hs hw h1) fun p σ F H E rs ht=>up1 rs ht fun e1 p1 v1 F1 H1 rs1 s1 sh er1 zq=>by
  obtain ⟨x,hx,q⟩:=zq
  subst hx
  exact ⟨p1,F1,x,_,rs1,er1,q,fun σ2 H2 zq=>by obtain ⟨p2,F2,rs2,s2,q2⟩:=zq;exact ⟨p2,F2,rs2,s1.trans s2,q2⟩⟩
structure JQ (K:PySem.W.Frag) (J:It) (n:Nat) (item:Nat->D) (F1:Hp):Prop where
 go:∀i F H,Same F H->Same F1 F->i<n->J.go i H
 yld:∀i F H x H',Same F H->Same F1 F->i<n->J.yld i H x H'->(H'=H/\Rep K F (item i) x)\/∃t xs vs,H t=none/\H'=upd H t (.tup vs)/\x=.ref t/\item i=.tup xs/\RepL K F xs vs
 stop:∀F H,Same F H->Same F1 F->J.stop n H
theorem JQ.out {J:It} {n:Nat} {item:Nat->D} {F1:Hp} {i:Nat} {x:V} {H':Hp} (jq:JQ C.K J n item F1) (rs:RS C p σ F H) (s:Same F1 F) (hi:i<n) (y:J.yld i H x H'):∃F',RS C p σ F' H'/\Same F F'/\Rep C.K F' (item i) x:=by
 rcases jq.yld i F H x H' rs.sub s hi y with ⟨rfl,r⟩|⟨t,xs,vs,h1,h2,h3,h4,h5⟩
 ·exact ⟨F,rs,.refl _,r⟩
 ·obtain ⟨z1,z2,z3⟩:=rs.free h1
  subst h2 h3
  rw [h4]
  exact ⟨_,rs.put h1,same_upd z1 _,.tup upd_same (h5.mono (same_upd z1 _))⟩
abbrev TIQ:=PSt->(Nat->(Nat->D)->PSt->Prop)->Prop
def XI (C:Pc) (p:PSt) (σ:St) (F:Hp) (R:Nat->(Nat->D)->PSt->Prop) (J:It) (H1:Hp):Prop:=∃n item p1 F1,RS C p1 σ F1 H1/\Same F F1/\Shp p p1/\JQ C.K J n item F1/\R n item p1
def UpI (C:Pc) (t:TIQ):TI:=fun σ H Q=>∃p F R,RS C p σ F H/\t p R/\∀J H1,XI C p σ F R J H1->Q J H1
theorem QI.mk {tg iter:Expr} {t:TI} {t':TIQ} (h:PI X tg iter t) (hi:∀p σ F H R,RS C p σ F H->t' p R->t σ H (XI C p σ F R)):PI X tg iter (UpI C t'):=fun pins s σ H Q I zq=>by
 obtain ⟨p,F,R,rs,ht,hq⟩:=zq
 exact thn (h pins s σ H _ I (hi p σ F H R rs ht)) fun _ _ h1=>thn h1 fun _ _ zq=>by obtain ⟨it,fp,tn,J,H',z1,z2,z3,z4,z5,z6⟩:=zq;exact ⟨it,fp,tn,J,H',z1,z2,z3,z4,z5,hq J H' z6⟩
theorem jq_rng (lo:Int) (n:Nat):JQ K (Itr lo n) n (fun i=>.int (lo+i)) F:=⟨fun i F H _ _ h=>h,fun i F H x H' _ _ _ zq=>by obtain ⟨h1,h2⟩:=zq;subst h1 h2;exact .inl ⟨rfl,.int _⟩,fun _ _ _ _=>Nat.le_refl _⟩
theorem getD_some {ds:List D} {i:Nat} (h:i<ds.length):ds[i]? = some (ds.getD i .non):=by
 rw [List.getD_eq_getElem?_getD,List.getElem?_eq_getElem h];rfl
theorem jq_lst {x:Addr} {vs:List V} {ds:List D} (h:F x=some (.lst vs)) (r:RepL K F ds vs):JQ K (Itl K x) ds.length (fun i=>ds.getD i .non) F:=by
 have sq:∀{F1 H:Hp},Same F1 H->Same F F1->SqL K H x vs:=fun rs s=>.of (rs _ _ (s _ _ h))
 refine ⟨fun i F1 H rs s hi=>?_,fun i F1 H v H' rs s hi y=>?_,fun F1 H rs s=>⟨vs,sq rs s,by rw [r.length];exact Nat.le_refl _⟩⟩
 ·obtain ⟨v,e1,_⟩:=r.get (getD_some hi)
  exact ⟨vs,v,sq rs s,e1⟩
 ·obtain ⟨e1,e2⟩:=y
  subst e1
  obtain ⟨w,e3,r3⟩:=r.get (getD_some hi)
  have:=e2 vs (sq rs s)
  rw [e3] at this;cases this
  exact .inl ⟨rfl,r3.mono s⟩
variable {tg:Expr} {tas:TAQ} {ps ps2:Pos}
def iqR1 (ta:TAQ):TIQ:=fun p Q=>ta p fun es p1=>∃e j,es=[e]/\lk p1 e=.int j/\-(2 ^ 62)<=j/\j<2 ^ 62/\Q j.toNat (fun i=>.int (0+i)) p1
theorem i_range1 (hg:Gl X "range") (hm:X.mg "range"=none) (ha:PA X [a] (UpA C tas)) (hs:starEach [a] X.env=[(false,eval a X.env)]:=by rfl):PI X tg (.Call (.Name "range" ps) [a] [] pos) (UpI C (iqR1 tas)):=
 QI.mk (pi_range1 hg hm ha hs) fun p σ F H R rs ht=>upA1 rs ht fun es1 p1 vs1 F1 H1 rs1 s1 sh er1 zq=>by
  obtain ⟨e1,j,h1,h2,h3,h4,q⟩:=zq
  obtain ⟨v,rfl,er⟩:=evs1 er1 h1
  exact ⟨j,by rw [ev_int er h2],h3,h4,_,_,p1,F1,rs1,s1,sh,jq_rng 0 _,q⟩
def iqR2 (ta:TAQ):TIQ:=fun p Q=>ta p fun es p1=>∃e f i j,es=[e,f]/\lk p1 e=.int i/\lk p1 f=.int j/\(-(2 ^ 62)<=i/\i<2 ^ 62/\-(2 ^ 62)<=j/\j<2 ^ 62)/\Q (j - i).toNat (fun k=>.int (i+k)) p1
theorem i_range2 (hg:Gl X "range") (hm:X.mg "range"=none) (ha:PA X [a,b] (UpA C tas)) (hs:starEach [a,b] X.env=[(false,eval a X.env),(false,eval b X.env)]:=by rfl) (hs2:starEach [b] X.env=[(false,eval b X.env)]:=by rfl):PI X tg (.Call (.Name "range" ps) [a,b] [] pos) (UpI C (iqR2 tas)):=
 QI.mk (pi_range2 hg hm ha hs hs2) fun p σ F H R rs ht=>upA1 rs ht fun es1 p1 vs1 F1 H1 rs1 s1 sh er1 zq=>by
  obtain ⟨e1,e2,i,j,h0,h1,h2,h3,q⟩:=zq
  obtain ⟨v,w,rfl,er,er'⟩:=evs2 er1 h0
  exact ⟨i,j,by rw [ev_int er h1,ev_int er' h2],h3,_,_,p1,F1,rs1,s1,sh,jq_rng i _,q⟩
def iqL (ta:TQ):TIQ:=fun p Q=>ta p fun e p1=>∃ds,e=.fz (.lst ds)/\Q ds.length (fun i=>ds.getD i .non) p1
theorem i_list (hK:X.K=C.K) (ha:PE X a (Up C ta)):PI X tg a (UpI C (iqL ta)):=
 QI.mk (pi_listK hK ha) fun p σ F H R rs ht=>up1 rs ht fun e1 p1 v1 F1 H1 rs1 s1 sh er1 zq=>by
  obtain ⟨ds,h1,q⟩:=zq
  subst h1
  cases er1 with
  | lst q1 r1=>exact ⟨_,rfl,⟨_,.of (rs1.sub _ _ q1)⟩,_,_,p1,F1,rs1,s1,sh,jq_lst q1 r1,q⟩
def qFor (ti:TIQ) (g:TGQ) (tb:TSQ):TSQ:=fun E p=>ti p fun n item p1=>∃I:Nat->PSt->Prop,I 0 p1/\(∀i p2,i<n->I i p2->g (item i) p2 fun p3=>tb { E with nx:=I (i+1),ct:=I (i+1),bk:=E.nx } p3)/\∀p2,I n p2->E.nx p2
theorem s_for {iter:Expr} {body:List Stmt} {ti:TIQ} {g:TGQ} {tb:TSQ} (hp:PassesOwn (model X.prog X.w) X.A X.env X.xe) (hc:X.calm=true) (hi:PI X tg iter (UpI C ti)) (hg:PG X tg (UpG C g)) (hb:PSs X body (UpS C tb))
  (hs:∀x,foldedSetIterable iter X.env x=pure x:=by intro _;rfl):PS X (.For tg iter body [] pos) (UpS C (qFor ti g tb)):=
 QS.mk (ps_for hp hc hi hg hb hs) fun p σ F H E rs ht=>⟨p,F,_,rs,ht,fun J H1 zq=>by
  obtain ⟨n,item,p1,F1,rs1,s1,sh1,jq,I,i0,istep,iend⟩:=zq
  refine ⟨fun i m σ H=>m=n - i/\i<=n/\∃p F,RS C p σ F H/\Same F1 F/\I i p,⟨n,by simp,Nat.zero_le _,p1,F1,rs1,.refl _,i0⟩,?_⟩
  rintro i m σ2 H2 ⟨rfl,hi,p2,F2,rs2,s2,i2⟩
  by_cases hlt:i<n
  ·refine .inr ⟨jq.go i F2 H2 rs2.sub s2 hlt,fun σ' H'=>∃p F,RS C p σ' F H'/\Same F1 F/\I (i+1) p,fun σ' H' h=>⟨n - (i+1),by omega,rfl,hlt,h⟩,fun x H' y=>?_⟩
   obtain ⟨F3,rs3,s3,r3⟩:=jq.out rs2 s2 hlt y
   refine ⟨p2,F3,item i,_,rs3,r3,istep i p2 hlt i2,fun σ4 H4 ⟨p4,F4,rs4,s4,q4⟩=>⟨p4,F4,_,rs4,q4,?_⟩⟩
   have s14:Same F1 F4:=s2.trans (s3.trans s4)
   exact ⟨fun _ _ zq=>by obtain ⟨p5,F5,a,b,c⟩:=zq;exact ⟨p5,F5,a,s14.trans b,c⟩,fun _ _ zq=>by obtain ⟨r,p5,σ5,F5,a,b,c⟩:=zq;exact ⟨r,p5,σ5,F5,a,s1.trans (s14.trans b),c⟩,fun _ _ zq=>by obtain ⟨p5,F5,a,b,c⟩:=zq;exact ⟨p5,F5,a,s1.trans (s14.trans b),c⟩,fun _ _ zq=>by obtain ⟨p5,F5,a,b,c⟩:=zq;exact ⟨p5,F5,a,s14.trans b,c⟩⟩
  ·have e:i=n:=by omega
   subst e
   exact .inl ⟨jq.stop F2 H2 rs2.sub s2,p2,F2,rs2,s1.trans s2,iend p2 i2⟩⟩
def qWhile (c:TTQ) (tb:TSQ):TSQ:=fun E p=>∃(I:PSt->Prop) (μ:PSt->Nat),I p/\∀p1,I p1->c p1 fun b p2=>if b=true then tb { E with nx:=fun q=>I q/\μ q<μ p1,ct:=fun q=>I q/\μ q<μ p1,bk:=E.nx } p2 else E.nx p2
theorem s_I {c:Expr} {body:List Stmt} {tc:TTQ} {tb:TSQ} (hp:PassesOwn (model X.prog X.w) X.A X.env X.xe) (hc:PT X c (UpT C tc)) (hb:PSs X body (UpS C tb)):PS X (.While c body [] pos) (UpS C (qWhile tc tb)):=
 QS.mk (ps_while hp hc hb) fun p σ F H E rs zq=>by
  obtain ⟨I,μ,i0,step⟩:=zq
  refine ⟨fun m σ1 H1=>∃p1 F1,RS C p1 σ1 F1 H1/\Same F F1/\I p1/\m=μ p1,⟨_,p,F,rs,.refl _,i0,rfl⟩,?_⟩
  rintro m σ1 H1 ⟨p1,F1,rs1,s1,i1,rfl⟩
  refine upT1 rs1 (step p1 i1) fun k p2 F2 H2 rs2 s2 sh q=>?_
  refine ite_imp (fun q=>?_) (fun q=>?_) q
  ·refine ⟨fun σ' H'=>∃p' F',RS C p' σ' F' H'/\Same F F'/\I p'/\μ p'<μ p1,fun σ' H' zq=>by obtain ⟨p',F',z1,z2,z3,z4⟩:=zq;exact ⟨_,z4,p',F',z1,z2,z3,rfl⟩,p2,F2,_,rs2,q,?_⟩
   have s12:=s1.trans s2
   exact ⟨fun _ _ zq=>by obtain ⟨p5,F5,a,b,c,d⟩:=zq;exact ⟨p5,F5,a,s12.trans b,c,d⟩,fun _ _ zq=>by obtain ⟨r,p5,σ5,F5,a,b,c⟩:=zq;exact ⟨r,p5,σ5,F5,a,s12.trans b,c⟩,fun _ _ zq=>by obtain ⟨p5,F5,a,b,c⟩:=zq;exact ⟨p5,F5,a,s12.trans b,c⟩,fun _ _ zq=>by obtain ⟨p5,F5,a,b,c,d⟩:=zq;exact ⟨p5,F5,a,s12.trans b,c,d⟩⟩
  ·exact ⟨p2,F2,rs2,s1.trans s2,q⟩
end
abbrev PSp:=List Sl->(Rt->List Sl->Prop)->Prop
def ArgR (K:PySem.W.Frag) (F H:Hp):Sl->V->Prop
 | .d x,v=>Rep K F x v
 | .own _,_=>False
 | .bor xs,v=>∃a vs,v=.ref a/\F a=none/\H a=some (.lst vs)/\RepL K F xs vs
structure ArgsR (K:PySem.W.Frag) (F H:Hp) (as:List Sl) (vs:List V):Prop where
 len:as.length=vs.length
 at_:∀(i:Nat) (s:Sl),as[i]? = some s->∃v,vs[i]? = some v/\ArgR K F H s v
 apart:∀(i j:Nat) (xs ys:List D) (a:Addr),i≠j->as[i]? = some (.bor xs)->as[j]? = some (.bor ys)->vs[i]? = some (.ref a)->vs[j]? = some (.ref a)->False
structure Post (K:PySem.W.Frag) (F H:Hp) (as:List Sl) (vs:List V) (r:Rt) (as':List Sl) (v:V) (F' H':Hp):Prop where
 ext:Same F F'
 sub:Same F' H'
 new:∀a o,F' a=some o->F a=some o\/H a=none\/∃xs,o=.tup xs
 keep:∀a o,H a=some o->(∀(i:Nat) (xs:List D),as[i]? = some (.bor xs)->vs[i]?≠some (.ref a))->H' a=some o
 grow:∀a,H a≠none->H' a≠none
 args:∀(i:Nat) (xs:List D),as[i]? = some (.bor xs)->∃ys a us,as'[i]? = some (.bor ys)/\vs[i]? = some (.ref a)/\F' a=none/\H' a=some (.lst us)/\RepL K F' ys us
 res:match r with
  | .rd x=>Rep K F' x v
  | .ro xs=>∃a us,v=.ref a/\F' a=none/\H a=none/\H' a=some (.lst us)/\RepL K F' xs us
def spOf (K:PySem.W.Frag) (S:PSp):Sp:=fun vs H Q _=>∃as F R,Same F H/\ArgsR K F H as vs/\S as R/\∀r as' v F' H',Post K F H as vs r as' v F' H'->R r as'->Q v H'
def argOf (p:PSt):Ev->Option Sl
 | .fz x=>some (.d x)
 | .ow i=>match mutL p i with
  | some xs=>some (.bor xs)
  | none=>none
def argsOf (p:PSt):List Ev->Option (List Sl)
 | []=>some []
 | e::r=>match argOf p e,argsOf p r with
  | some s,some ss=>some (s::ss)
  | _,_=>none
def owIx:List Ev->List Nat
 | []=>[]
 | .fz _::r=>owIx r
 | .ow i::r=>i::owIx r
def back:PSt->List Ev->List Sl->PSt
 | p,.ow i::es,.bor ys::as=>back (putL p i ys) es as
 | p,_::es,_::as=>back p es as
 | p,_,_=>p
theorem argsOf_get {p:PSt}:∀{es:List Ev} {as:List Sl},argsOf p es=some as->as.length=es.length/\∀(i:Nat) (e:Ev),es[i]? = some e->∃s,as[i]? = some s/\argOf p e=some s
 | [],as,h=>by cases h;exact ⟨rfl,fun i e z=>by simp at z⟩
 | e::r,as,h=>by
  unfold argsOf at h
  cases h1:argOf p e with
  | none=>rw [h1] at h;cases h
  | some s=>
   cases h2:argsOf p r with
   | none=>rw [h1,h2] at h;cases h
   | some ss=>
    rw [h1,h2] at h;cases h
    obtain ⟨l,g⟩:=argsOf_get h2
    refine ⟨by simp [l],fun i e' z=>?_⟩
    cases i with
    | zero=>simp at z;subst z;exact ⟨s,by simp,h1⟩
    | succ i=>exact (by simpa using g i e' (by simpa using z))
theorem putL_get {p:PSt} {i:Nat} {ys:List D} {k:Nat}:(putL p i ys)[k]? = (if k=i then (match p[k]? with|some (some s)=>some (some (s.put ys))|o=>o) else p[k]?):=by
 unfold putL
 by_cases hk:k=i
 ·subst hk
  rw [if_pos rfl]
  cases h:p[k]? with
  | none=>simp [h]
  | some o=>
   cases o with
   | none=>simp [h]
   | some s=>
    have hl:k<p.length:=(List.getElem?_eq_some_iff.mp h).1
    simp only []
    rw [List.getElem?_set_self hl]
 ·rw [if_neg hk]
  split
  ·rw [List.getElem?_set_ne (Ne.symm hk)]
  ·rfl
theorem putL_len {p:PSt} {i:Nat} {ys:List D}:(putL p i ys).length=p.length:=by
 unfold putL
 split
 ·exact List.length_set
 ·rfl
theorem back_len:∀{es:List Ev} {as:List Sl} {p:PSt},(back p es as).length=p.length
 | [],_,_=>by unfold back;rfl
 | .fz x::es,[],p=>by unfold back;rfl
 | .ow i::es,[],p=>by unfold back;rfl
 | .fz x::es,a::as,p=>by unfold back;exact back_len
 | .ow i::es,.bor ys::as,p=>by unfold back;rw [back_len,putL_len]
 | .ow i::es,.d y::as,p=>by unfold back;exact back_len
 | .ow i::es,.own y::as,p=>by unfold back;exact back_len
theorem mem_owIx:∀{es:List Ev} {k:Nat} {m:Nat},es[m]? = some (.ow k)->k∈owIx es
 | [],k,m,h=>by simp at h
 | .fz x::r,k,m,h=>by
  unfold owIx
  cases m with
  | zero=>simp at h
  | succ m=>exact mem_owIx (m:=m) (by simpa using h)
 | .ow i::r,k,m,h=>by
  unfold owIx
  cases m with
  | zero=>simp at h;subst h;exact List.mem_cons_self
  | succ m=>exact List.mem_cons_of_mem _ (mem_owIx (m:=m) (by simpa using h))
theorem back_get:∀{es:List Ev} {as:List Sl} {p:PSt} {k:Nat},(owIx es).Nodup->
  (∃(m:Nat) (ys:List D) (s:Sl),es[m]? = some (.ow k)/\as[m]? = some (.bor ys)/\p[k]? = some (some s)/\(back p es as)[k]? = some (some (s.put ys))) \/
  ((∀(m:Nat) (ys:List D) (s:Sl),es[m]? = some (.ow k)->as[m]? = some (.bor ys)->p[k]? = some (some s)->False)/\(back p es as)[k]? = p[k]?)
 | [],as,p,k,_=>.inr ⟨fun m ys s h=>by simp at h,by unfold back;rfl⟩
 | .fz x::es,[],p,k,_=>.inr ⟨fun m ys s _ h=>by simp at h,by unfold back;rfl⟩
 | .ow i::es,[],p,k,_=>.inr ⟨fun m ys s _ h=>by simp at h,by unfold back;rfl⟩
 | .fz x::es,a::as,p,k,nd=>by
  have e:back p (.fz x::es) (a::as)=back p es as:=by conv=>lhs;unfold back
  rw [e]
  rcases back_get (es:=es) (as:=as) (p:=p) (k:=k) nd with ⟨m,ys,s,h1,h2,h3,h4⟩|⟨h1,h2⟩
  ·exact .inl ⟨m+1,ys,s,by simpa using h1,by simpa using h2,h3,h4⟩
  ·refine .inr ⟨fun m ys s g1 g2 g3=>?_,h2⟩
   cases m with
   | zero=>simp at g1
   | succ m=>exact h1 m ys s (by simpa using g1) (by simpa using g2) g3
 | .ow i::es,.d y::as,p,k,nd=>by
  have e:back p (.ow i::es) (.d y::as)=back p es as:=by conv=>lhs;unfold back
  rw [e]
  have nd':(owIx es).Nodup:=by unfold owIx at nd;exact (List.nodup_cons.mp nd).2
  rcases back_get (es:=es) (as:=as) (p:=p) (k:=k) nd' with ⟨m,ys,s,h1,h2,h3,h4⟩|⟨h1,h2⟩
  ·exact .inl ⟨m+1,ys,s,by simpa using h1,by simpa using h2,h3,h4⟩
  ·refine .inr ⟨fun m ys s g1 g2 g3=>?_,h2⟩
   cases m with
   | zero=>simp at g2
   | succ m=>exact h1 m ys s (by simpa using g1) (by simpa using g2) g3
 | .ow i::es,.own y::as,p,k,nd=>by
  have e:back p (.ow i::es) (.own y::as)=back p es as:=by conv=>lhs;unfold back
  rw [e]
  have nd':(owIx es).Nodup:=by unfold owIx at nd;exact (List.nodup_cons.mp nd).2
  rcases back_get (es:=es) (as:=as) (p:=p) (k:=k) nd' with ⟨m,ys,s,h1,h2,h3,h4⟩|⟨h1,h2⟩
  ·exact .inl ⟨m+1,ys,s,by simpa using h1,by simpa using h2,h3,h4⟩
  ·refine .inr ⟨fun m ys s g1 g2 g3=>?_,h2⟩
   cases m with
   | zero=>simp at g2
   | succ m=>exact h1 m ys s (by simpa using g1) (by simpa using g2) g3
 | .ow i::es,.bor zs::as,p,k,nd=>by
  have e:back p (.ow i::es) (.bor zs::as)=back (putL p i zs) es as:=by conv=>lhs;unfold back
  rw [e]
  have nd0:i ∉ owIx es/\(owIx es).Nodup:=by unfold owIx at nd;exact List.nodup_cons.mp nd
  by_cases hk:k=i
  ·subst hk
   rcases back_get (es:=es) (as:=as) (p:=putL p k zs) (k:=k) nd0.2 with ⟨m,ys,s,h1,_⟩|⟨h1,h2⟩
   ·exact absurd (mem_owIx h1) nd0.1
   ·rw [h2,putL_get,if_pos rfl]
    cases h:p[k]? with
    | none=>exact .inr ⟨fun m ys s _ _ g=>(by cases g),rfl⟩
    | some o=>
     cases o with
     | none=>exact .inr ⟨fun m ys s _ _ g=>(by cases g),rfl⟩
     | some s=>exact .inl ⟨0,zs,s,by simp,by simp,rfl,rfl⟩
  ·have ep:(putL p i zs)[k]? = p[k]?:=by rw [putL_get,if_neg hk]
   rcases back_get (es:=es) (as:=as) (p:=putL p i zs) (k:=k) nd0.2 with ⟨m,ys,s,h1,h2,h3,h4⟩|⟨h1,h2⟩
   ·exact .inl ⟨m+1,ys,s,by simpa using h1,by simpa using h2,by rw [<-ep];exact h3,h4⟩
   ·refine .inr ⟨fun m ys s g1 g2 g3=>?_,by rw [h2,ep]⟩
    cases m with
    | zero=>simp at g1;exact hk g1.symm
    | succ m=>exact h1 m ys s (by simpa using g1) (by simpa using g2) (by rw [ep];exact g3)
theorem evs_get {K:PySem.W.Frag} {p:PSt} {σ:St} {F:Hp}:∀{es:List Ev} {vs:List V},EvRs K p σ F es vs->es.length=vs.length/\∀(i:Nat) (e:Ev),es[i]? = some e->∃v,vs[i]? = some v/\EvR K p σ F e v
 | _,_,.nil=>⟨rfl,fun i e z=>by simp at z⟩
 | _,_,.cons h t=>by
  obtain ⟨l,g⟩:=evs_get t
  refine ⟨by simp [l],fun i e' z=>?_⟩
  cases i with
  | zero=>simp at z;subst z;exact ⟨_,by simp,h⟩
  | succ i=>exact (by simpa using g i e' (by simpa using z))
section
variable {X:Cx} {C:Pc} {a b c e:Expr} {ta tb tc:TQ} {pos:Pos} {K:PySem.W.Frag} {p:PSt} {σ:St} {F H:Hp} {st:Stmt} {es:List Expr} {tas:TAQ}
theorem args_ok {es:List Ev} {vs:List V} {as:List Sl} (rs:RS C p σ F H) (er:EvRs C.K p σ F es vs) (ha:argsOf p es=some as) (nd:(owIx es).Nodup):ArgsR C.K F H as vs /\
  ∀(m:Nat) (xs:List D),as[m]? = some (.bor xs)->∃(k:Nat) (s:Sl) (a:Addr),es[m]? = some (.ow k)/\p[k]? = some (some s)/\s.mu=true/\σ[k]? = some (some (.ref a))/\vs[m]? = some (.ref a):=by
 obtain ⟨l1,g1⟩:=argsOf_get ha
 obtain ⟨l2,g2⟩:=evs_get er
 have low:∀(m:Nat) (xs:List D),as[m]? = some (.bor xs)->∃(k:Nat) (s:Sl) (a:Addr) (vs':List V),es[m]? = some (.ow k)/\p[k]? = some (some s)/\s.mu=true/\σ[k]? = some (some (.ref a))/\vs[m]? = some (.ref a)/\F a=none/\H a=some (.lst vs')/\RepL C.K F xs vs':=fun m xs h=>by
  have hm:m<es.length:=by rw [<-l1];exact (List.getElem?_eq_some_iff.mp h).1
  obtain ⟨s0,e1,e2⟩:=g1 m _ (List.getElem?_eq_getElem hm)
  rw [h] at e1;cases e1
  cases he:es[m] with
  | fz x=>rw [he] at e2;cases e2
  | ow k=>
   rw [he] at e2
   have hmut:mutL p k=some xs:=by
    unfold argOf at e2
    cases hq:mutL p k with
    | none=>simp [hq] at e2
    | some ys=>simp [hq] at e2;rw [e2]
   obtain ⟨s,a,vs',h1,h2,h3,h4,h5,h6⟩:=mut_at rs hmut
   obtain ⟨v,e3,er3⟩:=g2 m _ (List.getElem?_eq_getElem hm)
   rw [he] at er3
   have:=er3.2
   rw [h3] at this;cases this
   have fa:F a=none:=by
    obtain ⟨w,z1,z2⟩:=rs.sl k s h1
    rw [h3] at z1;cases z1
    cases s with
    | d x=>cases h2
    | own xs=>obtain ⟨_,_,z,y,_⟩:=z2;cases z;exact y
    | bor xs=>obtain ⟨_,_,z,y,_⟩:=z2;cases z;exact y
   exact ⟨k,s,a,vs',by rw [List.getElem?_eq_getElem hm,he],h1,h2,h3,e3,fa,h4,h5⟩
 refine ⟨⟨by rw [l1,l2],fun i s h=>?_,fun i j xs ys x hij h1 h2 h3 h4=>?_⟩,fun m xs h=>?_⟩
 ·have hm:i<es.length:=by rw [<-l1];exact (List.getElem?_eq_some_iff.mp h).1
  obtain ⟨s0,e1,e2⟩:=g1 i _ (List.getElem?_eq_getElem hm)
  rw [h] at e1;cases e1
  obtain ⟨v,e3,er3⟩:=g2 i _ (List.getElem?_eq_getElem hm)
  cases s with
  | d x=>
   refine ⟨v,e3,?_⟩
   cases he:es[i] with
   | fz y=>rw [he] at e2;rw [he] at er3;cases e2;exact er3
   | ow k=>
    rw [he] at e2
    unfold argOf at e2
    cases hq:mutL p k with
    | none=>simp [hq] at e2
    | some ys=>simp [hq] at e2
  | own xs=>
   cases he:es[i] with
   | fz y=>simp [he,argOf] at e2
   | ow k=>
    rw [he] at e2
    unfold argOf at e2
    cases hq:mutL p k with
    | none=>simp [hq] at e2
    | some ys=>simp [hq] at e2
  | bor xs=>
   obtain ⟨k,s,x,vs',z1,z2,z3,z4,z5,z6,z7,z8⟩:=low i xs h
   exact ⟨_,z5,x,vs',rfl,z6,z7,z8⟩
 ·obtain ⟨k,s,x1,vs',z1,z2,z3,z4,z5,z6,z7,z8⟩:=low i xs h1
  obtain ⟨k',s',x2,vs'',y1,y2,y3,y4,y5,y6,y7,y8⟩:=low j ys h2
  rw [h3] at z5;cases z5
  rw [h4] at y5;cases y5
  by_cases hk:k=k'
  ·subst hk
   -- the same slot twice
   have nodup_two:∀{l:List Ev} {i j k:Nat},(owIx l).Nodup->l[i]? = some (.ow k)->l[j]? = some (.ow k)->i=j:=by
    intro l
    induction l with
    | nil=>intro i j k _ h;simp at h
    | cons e r ih=>
     intro i j k nd h h'
     cases e with
     | fz x=>
      cases i with
      | zero=>simp at h
      | succ i=>
       cases j with
       | zero=>simp at h'
       | succ j=>exact congrArg _ (ih (i:=i) (j:=j) (k:=k) (by unfold owIx at nd;exact nd) (by simpa using h) (by simpa using h'))
     | ow q=>
      unfold owIx at nd
      obtain ⟨n1,n2⟩:=List.nodup_cons.mp nd
      cases i with
      | zero=>
       simp at h;subst h
       cases j with
       | zero=>rfl
       | succ j=>exact absurd (mem_owIx (m:=j) (by simpa using h')) n1
      | succ i=>
       cases j with
       | zero=>simp at h';subst h';exact absurd (mem_owIx (m:=i) (by simpa using h)) n1
       | succ j=>exact congrArg _ (ih (i:=i) (j:=j) (k:=k) n2 (by simpa using h) (by simpa using h'))
   exact hij (nodup_two nd z1 y1)
  ·exact rs.apart k k' s s' x hk z2 z3 y2 y3 z4 y4
 ·obtain ⟨k,s,x,vs',z1,z2,z3,z4,z5,z6,z7,z8⟩:=low m xs h
  exact ⟨k,s,x,z1,z2,z3,z4,z5⟩
theorem RS.call {es:List Ev} {vs:List V} {as as':List Sl} {r:Rt} {v:V} {F' H':Hp} (rs:RS C p σ F H) (er:EvRs C.K p σ F es vs) (ha:argsOf p es=some as) (nd:(owIx es).Nodup) (po:Post C.K F H as vs r as' v F' H') :
  RS C (back p es as') σ F' H'/\Shp p (back p es as')/\RtR C (back p es as') σ F' H' r v:=by
 obtain ⟨ar,lent⟩:=args_ok rs er ha nd
 obtain ⟨l1,g1⟩:=argsOf_get ha
 obtain ⟨l2,g2⟩:=evs_get er
 -- an address of ours that is lent is the slot's
 have kept:∀(k:Nat) (s:Sl) (x:Addr) (o:HO),p[k]? = some (some s)->s.mu=true->σ[k]? = some (some (.ref x))->H x=some o->(∀m:Nat,es[m]?≠some (.ow k))->H' x=some o:=fun k s x o h1 h2 h3 h4 h5=>by
  refine po.keep x o h4 fun i xs z1 z2=>?_
  obtain ⟨k',s',x',y1,y2,y3,y4,y5⟩:=lent i xs z1
  rw [z2] at y5;cases y5
  by_cases hk:k=k'
  ·subst hk;exact h5 i y1
  ·exact rs.apart k k' s s' x hk h1 h2 y2 y3 h3 y4
 have stillF:∀x us,F x=none->H x≠none->H' x=some (.lst us)->F' x=none:=fun x us h1 h2 h3=>by
  cases q:F' x with
  | none=>rfl
  | some o=>
   rcases po.new x o q with z|z|⟨ys,z⟩
   ·rw [h1] at z;cases z
   ·exact absurd z h2
   ·subst z
    have:=po.sub x _ q
    rw [h3] at this;cases this
 have slot:∀(k:Nat) (s:Sl),(back p es as')[k]? = some (some s)->∃s0,p[k]? = some (some s0)/\s.mu=s0.mu/\(∀xs,s0=.own xs->∃ys,s=.own ys)/\(∀xs,s0=.bor xs->∃ys,s=.bor ys)/\(s0.mu=false->s=s0) /\
   (s.mu=true->∃x us ys,σ[k]? = some (some (.ref x))/\F' x=none/\H' x=some (.lst us)/\RepL C.K F' ys us/\(s=.own ys\/s=.bor ys)):=fun k s h=>by
  rcases back_get (es:=es) (as:=as') (p:=p) (k:=k) nd with ⟨m,ys,s0,h1,h2,h3,h4⟩|⟨h1,h2⟩
  ·rw [h4] at h;cases h
   obtain ⟨s1,q1,q2⟩:=g1 m _ h1
   have q3:∃xs,s1=.bor xs:=by
    unfold argOf at q2
    cases hq:mutL p k with
    | none=>simp [hq] at q2
    | some zs=>simp [hq] at q2;exact ⟨zs,q2.symm⟩
   obtain ⟨xs,rfl⟩:=q3
   obtain ⟨ys',x,us,a1,a2,a3,a4,a5⟩:=po.args m xs q1
   rw [h2] at a1;cases a1
   obtain ⟨k',s',x',y1,y2,y3,y4,y5⟩:=lent m xs q1
   rw [h1] at y1;cases y1
   rw [h3] at y2;cases y2
   rw [a2] at y5;cases y5
   refine ⟨s0,h3,?_,fun xs z=>⟨ys,by subst z;rfl⟩,fun xs z=>⟨ys,by subst z;rfl⟩,fun z=>?_,fun _=>⟨x,us,ys,y4,a3,a4,a5,?_⟩⟩
   ·cases s0<;>rfl
   ·rw [y3] at z;cases z
   ·cases s0 with
    | d x=>cases y3
    | own xs=>exact .inl rfl
    | bor xs=>exact .inr rfl
  ·rw [h2] at h
   refine ⟨s,h,rfl,fun xs z=>⟨xs,z⟩,fun xs z=>⟨xs,z⟩,fun _=>rfl,fun hm=>?_⟩
   obtain ⟨w,z1,z2⟩:=rs.sl k s h
   have nl:∀m:Nat,es[m]?≠some (.ow k):=fun m hm'=>by
    obtain ⟨s1,q1,q2⟩:=g1 m _ hm'
    have q3:∃xs,s1=.bor xs:=by
     unfold argOf at q2
     cases hq:mutL p k with
     | none=>simp [hq] at q2
     | some zs=>simp [hq] at q2;exact ⟨zs,q2.symm⟩
    obtain ⟨xs,rfl⟩:=q3
    obtain ⟨ys',x,us,a1,a2,a3,a4,a5⟩:=po.args m xs q1
    exact h1 m ys' s hm' a1 h
   cases s with
   | d x=>cases hm
   | own xs=>
    obtain ⟨x,us,rfl,y1,y2,y3,y4⟩:=z2
    have hH:=kept k _ x _ h rfl z1 y3 nl
    exact ⟨x,us,xs,z1,stillF x us y1 (by rw [y3];intro z;cases z) hH,hH,y4.mono po.ext,.inl rfl⟩
   | bor xs=>
    obtain ⟨x,us,rfl,y1,y2,y3,y4⟩:=z2
    have hH:=kept k _ x _ h rfl z1 y3 nl
    exact ⟨x,us,xs,z1,stillF x us y1 (by rw [y3];intro z;cases z) hH,hH,y4.mono po.ext,.inr rfl⟩
 have rs':RS C (back p es as') σ F' H':=by
  refine ⟨po.sub,rs.ext.trans po.ext,fun x o q=>?_,fun x o q n=>?_,fun x n=>po.grow x (rs.grow x n),by rw [back_len];exact rs.len,fun k s h=>?_,fun i j s s' x hij e1 m1 e2 m2 x1 x2=>?_,fun q hq=>?_⟩
  ·rcases po.new x o q with z|z|z
   ·exact rs.new x o z
   ·exact .inr (.inl (rs.free z).2.1)
   ·exact .inr (.inr z)
  ·refine po.keep x o (rs.keep x o q n) fun i xs z1 z2=>?_
   obtain ⟨k',s',x',y1,y2,y3,y4,y5⟩:=lent i xs z1
   rw [z2] at y5;cases y5
   obtain ⟨w,w1,w2⟩:=rs.sl k' s' y2
   rw [y4] at w1;cases w1
   cases s' with
   | d x=>cases y3
   | own xs=>obtain ⟨_,_,z,_,y,_⟩:=w2;cases z;rw [y] at q;cases q
   | bor xs=>obtain ⟨_,_,z,_,⟨q',hq',y⟩,_⟩:=w2;cases z;exact n q' hq' y
  ·obtain ⟨s0,h0,hm,ho,hb,hd,hl⟩:=slot k s h
   obtain ⟨w,w1,w2⟩:=rs.sl k s0 h0
   refine ⟨w,w1,?_⟩
   cases s0 with
   | d x=>rw [hd rfl];exact Rep.mono po.ext w2
   | own xs=>
    obtain ⟨ys,rfl⟩:=ho xs rfl
    obtain ⟨x,us,ys',z1,z2,z3,z4,z5⟩:=hl rfl
    rw [w1] at z1;cases z1
    obtain ⟨_,_,z,_,y,_⟩:=w2;cases z
    rcases z5 with z5|z5<;>cases z5
    exact ⟨x,us,rfl,z2,y,z3,z4⟩
   | bor xs=>
    obtain ⟨ys,rfl⟩:=hb xs rfl
    obtain ⟨x,us,ys',z1,z2,z3,z4,z5⟩:=hl rfl
    rw [w1] at z1;cases z1
    obtain ⟨_,_,z,_,y,_⟩:=w2;cases z
    rcases z5 with z5|z5<;>cases z5
    exact ⟨x,us,rfl,z2,y,z3,z4⟩
  ·obtain ⟨s1,h1,hm1,_⟩:=slot i s e1
   obtain ⟨s2,h2,hm2,_⟩:=slot j s' e2
   exact rs.apart i j s1 s2 x hij h1 (by rw [<-hm1];exact m1) h2 (by rw [<-hm2];exact m2) x1 x2
  ·obtain ⟨z1,xs,z2⟩:=rs.pin q hq
   refine ⟨z1,?_⟩
   rcases back_get (es:=es) (as:=as') (p:=p) (k:=q.1) nd with ⟨m,ys,s0,h1,h2,h3,h4⟩|⟨h1,h2⟩
   ·rw [z2] at h3;cases h3
    exact ⟨ys,h4⟩
   ·exact ⟨xs,by rw [h2];exact z2⟩
 refine ⟨rs',⟨back_len,fun k s h m=>?_⟩,?_⟩
 ·rcases back_get (es:=es) (as:=as') (p:=p) (k:=k) nd with ⟨m',ys,s0,h1,h2,h3,h4⟩|⟨h1,h2⟩
  ·rw [h] at h3;cases h3
   exact ⟨_,h4,by cases s<;>first|rfl|cases m⟩
  ·exact ⟨s,by rw [h2];exact h,m⟩
 ·have res:=po.res
  cases r with
  | rd x=>exact res
  | ro xs=>
   obtain ⟨x,us,z1,z2,z3,z4,z5⟩:=res
   refine ⟨x,us,z1,z2,(rs.free z3).2.1,z4,z5,fun k s h m z=>?_⟩
   obtain ⟨s0,h0,hm,_⟩:=slot k s h
   exact (rs.free z3).2.2 k s0 h0 (by rw [<-hm];exact m) z
def nCall (S:PSp) (t:TAQ):TN:=fun p Q=>t p fun es p1=>∃as,argsOf p1 es=some as/\(owIx es).Nodup/\S as fun r as'=>Q r (back p1 es as')
theorem n_call {x:Str} {st:Stmt} {ps:List Str} {k:Nat} {S:PSp} {p0:Pos} (hK:X.K=C.K) (D:DefAt X.K X.mg x st ps) (G:FnOk X.prog X.w X.K X.mg X.base CX0 k D.f D.fd ps (spOf X.K S)) (hr:Room k X.A) (ha:PA X (e::es) (UpA C tas))
  (hg:Gl X x:=by rfl) (hdb:(x == ("__debug__":Str))=false:=by decide) (he:starEach (e::es) X.env=(false,eval e X.env)::starEach es X.env:=by rfl) (hpl:(backTo pos (starEach es X.env)).any (·.1)=false:=by rfl) :
  PE X (.Call (.Name x p0) (e::es) [] pos) (UpN C (nCall S tas)):=
 QN.mk (pe_callD D G hr ha hg hdb he hpl) fun p σ F H R rs ht=>upA1 rs ht fun es1 p1 vs1 F1 H1 rs1 s1 sh er1 zq=>by
  obtain ⟨as,h1,nd,q⟩:=zq
  rw [List.append_nil,hK]
  refine ⟨as,F1,_,rs1.sub,(args_ok rs1 er1 h1 nd).1,q,fun r as' v F' H' po hq=>?_⟩
  obtain ⟨rs2,sh2,rr⟩:=rs1.call er1 h1 nd po
  exact ⟨r,_,F',rs2,s1.trans po.ext,sh.trans sh2,rr,hq⟩
def outs:List Sl->PSt->List Sl
 | [],_=>[]
 | .bor _::r,some s::p=>s::outs r p
 | s::r,_::p=>s::outs r p
 | s::r,[]=>s::r
theorem outs_get:∀{as:List Sl} {p:PSt} {i:Nat} {xs:List D} {s:Sl},as[i]? = some (.bor xs)->p[i]? = some (some s)->(outs as p)[i]? = some s
 | [],p,i,xs,s,h,_=>by simp at h
 | a::as,[],i,xs,s,_,h=>by simp at h
 | .bor ys::as,o::p,0,xs,s,h,h'=>by
  simp at h';subst h';unfold outs;simp
 | .d y::as,o::p,0,xs,s,h,h'=>by simp at h
 | .own y::as,o::p,0,xs,s,h,h'=>by simp at h
 | .bor ys::as,none::p,i+1,xs,s,h,h'=>by
  unfold outs;simpa using outs_get (as:=as) (p:=p) (i:=i) (xs:=xs) (s:=s) (by simpa using h) (by simpa using h')
 | .bor ys::as,some q::p,i+1,xs,s,h,h'=>by
  unfold outs;simpa using outs_get (as:=as) (p:=p) (i:=i) (xs:=xs) (s:=s) (by simpa using h) (by simpa using h')
 | .d ys::as,o::p,i+1,xs,s,h,h'=>by
  unfold outs;simpa using outs_get (as:=as) (p:=p) (i:=i) (xs:=xs) (s:=s) (by simpa using h) (by simpa using h')
 | .own ys::as,o::p,i+1,xs,s,h,h'=>by
  unfold outs;simpa using outs_get (as:=as) (p:=p) (i:=i) (xs:=xs) (s:=s) (by simpa using h) (by simpa using h')
def lentBs:Nat->List Sl->List V->List (Nat × Addr)
 | n,.bor _::as,.ref a::vs=>(n,a)::lentBs (n+1) as vs
 | n,_::as,_::vs=>lentBs (n+1) as vs
 | _,_,_=>[]
theorem lentBs_mem:∀{as:List Sl} {vs:List V} {n:Nat} {q:Nat × Addr},q∈lentBs n as vs->∃(m:Nat) (xs:List D),q.1=n+m/\as[m]? = some (.bor xs)/\vs[m]? = some (.ref q.2)
 | [],vs,n,q,h=>by unfold lentBs at h;simp at h
 | a::as,[],n,q,h=>by cases a<;>(unfold lentBs at h;simp at h)
 | a::as,v::vs,n,q,h=>by
  have step:q∈lentBs (n+1) as vs->∃(m:Nat) (xs:List D),q.1=n+m/\(a::as)[m]? = some (.bor xs)/\(v::vs)[m]? = some (.ref q.2):=fun h=>by
   obtain ⟨m,xs,h1,h2,h3⟩:=lentBs_mem h
   exact ⟨m+1,xs,by omega,by simpa using h2,by simpa using h3⟩
  cases a with
  | bor ys=>
   cases v with
   | ref x=>
    unfold lentBs at h
    rcases List.mem_cons.mp h with h|h
    ·subst h;exact ⟨0,ys,by simp,by simp,by simp⟩
    ·exact step h
   | _=>exact step (by unfold lentBs at h;exact h)
  | d y=>exact step (by unfold lentBs at h;exact h)
  | own y=>exact step (by unfold lentBs at h;exact h)
theorem mem_lentBs:∀{as:List Sl} {vs:List V} {n m:Nat} {xs:List D} {x:Addr},as[m]? = some (.bor xs)->vs[m]? = some (.ref x)->(n+m,x)∈lentBs n as vs
 | [],vs,n,m,xs,x,h,_=>by simp at h
 | a::as,[],n,m,xs,x,_,h=>by simp at h
 | a::as,v::vs,n,0,xs,x,h,h'=>by
  simp at h h';subst h h';unfold lentBs;simp
 | a::as,v::vs,n,m+1,xs,x,h,h'=>by
  have ih:=mem_lentBs (as:=as) (vs:=vs) (n:=n+1) (m:=m) (xs:=xs) (x:=x) (by simpa using h) (by simpa using h')
  have e:n+(m+1)=n+1+m:=by omega
  rw [e]
  cases a with
  | bor ys=>
   cases v with
   | ref y=>unfold lentBs;exact List.mem_cons_of_mem _ ih
   | _=>unfold lentBs;exact ih
  | d y=>unfold lentBs;exact ih
  | own y=>unfold lentBs;exact ih
def startP (N:List Str) (as:List Sl):PSt:=as.map some++List.replicate (N.length - as.length) none
end
section
variable {P:Program} {w:World} {K:PySem.W.Frag} {mg:Str->Option Value} {base:Heap}
theorem Fun.okP {x qual:Str} {st:Stmt} {f:Addr} {fd:FuncData} {N ps:List Str} {k:Nat} {S:PSp} (Fn:Fun K x qual st f fd) (Sc:FnScope N ps (defScope st)) (len:∀as R,S as R->as.length=ps.length)
  (hbody:∀(cdv:Value) (A:Around) (outer:List Env) (s:Shared) (H:Hp) (E:XK) (C:Pc) (as:List Sl) (R:Rt->List Sl->Prop),K=C.K->Room k (A.deeper (envOfC qual (defScope st) s.heap.objs.size f cdv))->S as R->
   ∃t,PSs (cxOf CX0 P w K mg base N qual (defScope st) f cdv A outer s H E).nox (defBody st) (UpS C t)/\t { nx:=fun p=>R (.rd .non) (outs as p),rt:=fun r p=>R r (outs as p) } (startP N as)):FnOk P w K mg base CX0 (k+1) f fd ps (spOf K S):=by
 refine Fn.ok Sc (fun vs H Q E h=>?_) (fun cdv A outer s H vs Q E hr h=>?_)
 ·obtain ⟨as,F,R,h1,h2,h3,h4⟩:=h
  rw [<-h2.len];exact len as R h3
 obtain ⟨as,F,R,sFH,ar,hS,hq⟩:=h
 have hb:=hbody cdv A outer s H E ⟨K,F,H,lentBs 0 as vs⟩ as R rfl hr hS
 obtain ⟨t,ht,tq⟩:=hb
 have bsm:∀q∈lentBs 0 as vs,∃xs,as[q.1]? = some (.bor xs)/\vs[q.1]? = some (.ref q.2):=fun q hq=>by
  obtain ⟨m,xs,h1,h2,h3⟩:=lentBs_mem hq
  rw [Nat.zero_add] at h1
  rw [h1]
  exact ⟨xs,h2,h3⟩
 have getP:∀(i:Nat) (s:Sl),(startP N as)[i]? = some (some s)->as[i]? = some s:=fun i s h=>by
  unfold startP at h
  by_cases hi:i<as.length
  ·rw [List.getElem?_append_left (by simpa using hi)] at h
   simpa using h
  ·rw [List.getElem?_append_right (by simpa using Nat.le_of_not_lt hi),List.getElem?_replicate] at h
   split at h<;>cases h
 have getV:∀(i:Nat) (v:V),vs[i]? = some v->(start N vs)[i]? = some (some v):=fun i v h=>by
  unfold start
  have hi:=(List.getElem?_eq_some_iff.mp h).1
  rw [List.getElem?_append_left (by simpa using hi)]
  simpa using h
 have rs:RS ⟨K,F,H,lentBs 0 as vs⟩ (startP N as) (start N vs) F H:=by
  refine ⟨sFH,.refl _,fun a o h=>.inl h,fun a o h _=>h,fun a h=>h,?_,fun i s h=>?_,fun i j s s' a hij e1 m1 e2 m2 x1 x2=>?_,fun q hq=>?_⟩
  ·unfold startP start
   rw [List.length_append,List.length_append,List.length_map,List.length_map,List.length_replicate,List.length_replicate,ar.len]
  ·obtain ⟨v,h1,h2⟩:=ar.at_ i s (getP i s h)
   refine ⟨v,getV i v h1,?_⟩
   cases s with
   | d x=>exact h2
   | own xs=>exact h2.elim
   | bor xs=>
    obtain ⟨a,us,rfl,z1,z2,z3⟩:=h2
    have mm:=mem_lentBs (n:=0) (getP i _ h) h1
    exact ⟨a,us,rfl,z1,⟨_,mm,rfl⟩,z2,z3⟩
  ·have f1:=getP i s e1
   have f2:=getP j s' e2
   obtain ⟨v1,h1,k1⟩:=ar.at_ i s f1
   obtain ⟨v2,h2,k2⟩:=ar.at_ j s' f2
   rw [getV i v1 h1] at x1;cases x1
   rw [getV j v2 h2] at x2;cases x2
   cases s with
   | d x=>cases m1
   | own xs=>exact k1.elim
   | bor xs=>
    cases s' with
    | d x=>cases m2
    | own xs=>exact k2.elim
    | bor ys=>exact ar.apart i j xs ys a hij f1 f2 h1 h2
  ·obtain ⟨xs,h1,h2⟩:=bsm q hq
   refine ⟨getV _ _ h2,xs,?_⟩
   unfold startP
   have hi:=(List.getElem?_eq_some_iff.mp h1).1
   rw [List.getElem?_append_left (by simpa using hi)]
   simpa using h1
 -- the end
 have fin:∀(r:Rt) (p1:PSt) (σ1:St) (v:V) (F1 H1:Hp),RS ⟨K,F,H,lentBs 0 as vs⟩ p1 σ1 F1 H1->RtR ⟨K,F,H,lentBs 0 as vs⟩ p1 σ1 F1 H1 r v->R r (outs as p1)->Q v H1:=fun r p1 σ1 v F1 H1 rs1 rr q=>by
  refine hq r _ v F1 H1 ⟨rs1.ext,rs1.sub,rs1.new,fun a o h n=>?_,rs1.grow,fun i xs h=>?_,?_⟩ q
  ·refine rs1.keep a o h fun q hq z=>?_
   obtain ⟨xs,h1,h2⟩:=bsm q hq
   exact n q.1 xs h1 (by rw [h2,z])
  ·obtain ⟨v,h1,k1⟩:=ar.at_ i _ h
   obtain ⟨a,us,rfl,z1,z2,z3⟩:=k1
   have mm:=mem_lentBs (n:=0) h h1
   obtain ⟨p1',ys,p2'⟩:=rs1.pin _ mm
   rw [Nat.zero_add] at p1' p2'
   obtain ⟨w,w1,b,us',e,y1,y2,y3,y4⟩:=rs1.sl i _ p2'
   rw [p1'] at w1;cases w1;cases e
   exact ⟨ys,a,us',outs_get h p2',h1,y1,y3,y4⟩
  ·cases r with
   | rd x=>exact rr
   | ro xs=>obtain ⟨a,us,z1,z2,z3,z4,z5,_⟩:=rr;exact ⟨a,us,z1,z2,z3,z4,z5⟩
 refine ⟨_,ht,startP N as,F,_,rs,tq,⟨fun σ1 H1 ⟨p1,F1,rs1,s1,q⟩=>?_,fun v H1 ⟨r,p1,σ1,F1,rs1,s1,rr,q⟩=>?_,fun _ _ ⟨_,_,_,_,z⟩=>z.elim,fun _ _ ⟨_,_,_,_,z⟩=>z.elim⟩⟩
 ·exact fin (.rd .non) p1 σ1 .non F1 H1 rs1 .non q
 ·exact fin r p1 σ1 v F1 H1 rs1 rr q
end
def Pc.sh (C:Pc) (k:Nat):Pc:=⟨C.K,C.F0,C.H0,C.bs.map fun q=>(q.1+k,q.2)⟩
section
variable {X:Cx} {C:Pc} {a b c e:Expr} {ta tb tc:TQ} {pos:Pos} {K:PySem.W.Frag} {p:PSt} {σ:St} {F H:Hp} {k:Nat}
theorem rep_get {α:Type} {l:List (Option α)} {i:Nat} {s:α} (h:(List.replicate k none++l)[i]? = some (some s)):∃j,i=k+j/\l[j]? = some (some s):=by
 by_cases hi:i<k
 ·rw [List.getElem?_append_left (by simpa using hi),List.getElem?_replicate,if_pos hi] at h
  cases h
 ·rw [List.getElem?_append_right (by simpa using Nat.le_of_not_lt hi),List.length_replicate] at h
  exact ⟨i - k,by omega,h⟩
theorem rep_at {α:Type} {l:List (Option α)} {j:Nat}:(List.replicate k (none:Option α)++l)[k+j]? = l[j]?:=by
 rw [List.getElem?_append_right (by simp),List.length_replicate,Nat.add_sub_cancel_left]
theorem sl_sh {s:Sl} {v:V}:SlRel (C.sh k) F H s v ↔ SlRel C F H s v:=by
 cases s with
 | d x=>exact Iff.rfl
 | own xs=>exact Iff.rfl
 | bor xs=>
  constructor
  ·rintro ⟨x,vs,h1,h2,⟨q,hq,h3⟩,h4⟩
   obtain ⟨q',hq',e⟩:=List.mem_map.mp hq
   exact ⟨x,vs,h1,h2,⟨q',hq',by rw [<-h3,<-e]⟩,h4⟩
  ·rintro ⟨x,vs,h1,h2,⟨q,hq,h3⟩,h4⟩
   exact ⟨x,vs,h1,h2,⟨(q.1+k,q.2),List.mem_map.mpr ⟨q,hq,rfl⟩,h3⟩,h4⟩
theorem RS.shift (rs:RS C p σ F H):RS (C.sh k) (List.replicate k none++p) (List.replicate k none++σ) F H:=by
 refine ⟨rs.sub,rs.ext,rs.new,fun x o h n=>rs.keep x o h fun q hq=>n (q.1+k,q.2) (List.mem_map.mpr ⟨q,hq,rfl⟩),rs.grow,by rw [List.length_append,List.length_append,List.length_replicate,List.length_replicate,rs.len],fun i s h=>?_,fun i j s s' x hij e1 m1 e2 m2 x1 x2=>?_,fun q hq=>?_⟩
 ·obtain ⟨j,rfl,h1⟩:=rep_get h
  obtain ⟨v,e1,r⟩:=rs.sl j s h1
  exact ⟨v,by rw [rep_at];exact e1,sl_sh.mpr r⟩
 ·obtain ⟨i',rfl,h1⟩:=rep_get e1
  obtain ⟨j',rfl,h2⟩:=rep_get e2
  rw [rep_at] at x1 x2
  exact rs.apart i' j' s s' x (fun z=>hij (by rw [z])) h1 m1 h2 m2 x1 x2
 ·obtain ⟨q',hq',e⟩:=List.mem_map.mp hq
  obtain ⟨z1,xs,z2⟩:=rs.pin q' hq'
  subst e
  have e:q'.1+k=k+q'.1:=Nat.add_comm _ _
  exact ⟨by show (List.replicate k none++σ)[q'.1+k]? = _;rw [e,rep_at];exact z1,xs,by show (List.replicate k none++p)[q'.1+k]? = _;rw [e,rep_at];exact z2⟩
theorem RS.unshift (rs:RS (C.sh k) p σ F H) (hk:k<=p.length):RS C (p.drop k) (σ.drop k) F H:=by
 refine ⟨rs.sub,rs.ext,rs.new,fun x o h n=>rs.keep x o h fun q hq=>?_,rs.grow,by rw [List.length_drop,List.length_drop,rs.len],fun i s h=>?_,fun i j s s' x hij e1 m1 e2 m2 x1 x2=>?_,fun q hq=>?_⟩
 ·obtain ⟨q',hq',e⟩:=List.mem_map.mp hq
  rw [<-e];exact n q' hq'
 ·rw [List.getElem?_drop] at h
  obtain ⟨v,e1,r⟩:=rs.sl _ s h
  exact ⟨v,by rw [List.getElem?_drop];exact e1,sl_sh.mp r⟩
 ·rw [List.getElem?_drop] at e1 e2 x1 x2
  exact rs.apart _ _ s s' x (fun z=>hij (by omega)) e1 m1 e2 m2 x1 x2
 ·obtain ⟨z1,xs,z2⟩:=rs.pin (q.1+k,q.2) (List.mem_map.mpr ⟨q,hq,rfl⟩)
  have e:q.1+k=k+q.1:=Nat.add_comm _ _
  refine ⟨?_,xs,?_⟩
  ·rw [List.getElem?_drop,<-e];exact z1
  ·rw [List.getElem?_drop,<-e];exact z2
def XGk (C:Pc) (k:Nat) (p:PSt) (σ:St) (F:Hp) (R:PSt->Prop) (σ1:St) (H1:Hp):Prop:=∃p1 F1,RS C p1 σ1 F1 H1/\Same F F1/\Shp p p1/\σ1.drop k=σ.drop k/\R p1
def UpGk (C:Pc) (k:Nat) (g:TGQ):TG:=fun v σ H Q=>∃p F x R,RS C p σ F H/\Rep C.K F x v/\g x p R/\∀σ1 H1,XGk C k p σ F R σ1 H1->Q σ1 H1
theorem QGk.mk {tg:Expr} {g:TG} {g':TGQ} (h:PG X tg g) (hi:∀p σ F H x v R,RS C p σ F H->Rep C.K F x v->g' x p R->g v σ H (XGk C k p σ F R)):PG X tg (UpGk C k g'):=fun pins s σ H v u Q I r zq=>by
 obtain ⟨p,F,x,R,rs,rx,hg,hq⟩:=zq
 exact thn (h pins s σ H v u _ I r (hi p σ F H x v R rs rx hg)) fun _ _ zq=>by obtain ⟨σ1,H1,I1,q1⟩:=zq;exact ⟨σ1,H1,I1,hq σ1 H1 q1⟩
def gkName (i:Nat):TGQ:=fun x p Q=>mutL p i=none/\Q (p.set i (some (.d x)))
theorem gk_name {i:Nat} {x:Str} (hik:i<k) (hN:X.N.Nodup) (hi:X.N[i]? = some x) (hx:Loc X.env.scope x) (hf:X.fn x=true\/X.env.scope.names.lookup x=some .local:=by first|exact .inl rfl|exact .inr rfl|assumption):PG X (.Name x pos) (UpGk C k (gkName i)):=
 QGk.mk (pg_name hN hi hx hf) fun p σ F H x v R rs rx zq=>by
  obtain ⟨hn,q⟩:=zq
  have hb:nbr p i=true:=by
   unfold nbr
   unfold mutL at hn
   split
   ·rename_i e;rw [e] at hn;cases hn
   ·rfl
  refine ⟨_,F,rs.setD hb rx,.refl _,⟨List.length_set,fun j s e m=>?_⟩,?_,q⟩
  ·by_cases hj:i=j
   ·subst hj
    unfold mutL at hn
    rw [e] at hn
    cases s with
    | d x=>cases m
    | own xs=>cases hn
    | bor xs=>cases hn
   ·exact ⟨s,by rw [List.getElem?_set_ne hj];exact e,m⟩
  ·apply List.ext_getElem?
   intro j
   rw [List.getElem?_drop,List.getElem?_drop,List.getElem?_set_ne (by omega)]
def qYes:TTQ:=fun p Q=>Q true p
theorem ts_nil:PTs X [] (UpT C qYes):=fun pins s σ H Q I zq=>by obtain ⟨p,F,R,rs,ht,hq⟩:=zq;exact pts_nil pins s σ H Q I (hq true H ⟨p,F,rs,.refl _,.refl _,ht⟩)
theorem ts_one {tt:TTQ} (h:PT X c (UpT C tt)):PTs X [c] (UpT C tt):=pts_one h
def nComp (k:Nat) (ti:TIQ) (g:TGQ) (tt:TTQ) (te:TQ):TN:=fun p Q=>ti p fun n item p1=>∃I:Nat->List D->PSt->Prop,I 0 [] (List.replicate k none++p1)/\n<=100000 /\
 (∀i ys p2,i<n->I i ys p2->ys.length<=i/\g (item i) p2 fun p3=>tt p3 fun b p4=>if b=true then te p4 fun e p5=>∃y,e=.fz y/\I (i+1) (ys++[y]) p5 else I (i+1) ys p4)/\∀ys p2,I n ys p2->Q (.ro ys) (p2.drop k)
theorem comp_low {ti:TIQ} {g:TGQ} {tt:TTQ} {te:TQ} {R:Rt->PSt->Prop} {Q:VK} (rs:RS C p σ F H) (ht:nComp k ti g tt te p R) (hq:∀v H1,XN C p σ F R v H1->Q v H1) :
  tComp k (UpI C ti) (UpGk (C.sh k) k g) (UpT (C.sh k) tt) (Up (C.sh k) te) σ H Q:=
 ⟨p,F,_,rs,ht,fun J H1 zq=>by
  obtain ⟨n,item,p1,F1,rs1,s1,sh1,jq,I,i0,hn,istep,iend⟩:=zq
  have lp:p1.length=σ.length:=rs1.len
  refine ⟨fun i m ys σ2 H2=>m=n - i/\i<=n/\∃p2 F2 zs,RS (C.sh k) p2 σ2 F2 H2/\Same F1 F2/\Shp (List.replicate k none++p1) p2/\σ2.drop k=σ/\RepL C.K F2 zs ys/\I i zs p2,⟨n,by simp,Nat.zero_le _,_,F1,[],rs1.shift,.refl _,.refl _,by simp,.nil,i0⟩,?_⟩
  rintro i m ys σ2 H2 ⟨rfl,hi,p2,F2,zs,rs2,s2,sh2,d2,rz,i2⟩
  have hkp:k<=p2.length:=by
   have:=sh2.1
   rw [List.length_append,List.length_replicate] at this
   omega
  by_cases hlt:i<n
  ·obtain ⟨hl,st⟩:=istep i zs p2 hlt i2
   refine .inr ⟨jq.go i F2 H2 rs2.sub s2 hlt,?_,fun ys' σ' H'=>∃p' F' zs',RS (C.sh k) p' σ' F' H'/\Same F1 F'/\Shp (List.replicate k none++p1) p'/\σ'.drop k=σ/\RepL C.K F' zs' ys'/\I (i+1) zs' p',fun _ _ _ h=>⟨n - (i+1),by omega,rfl,hlt,h⟩,fun x H' y=>?_⟩
   ·rw [<-rz.length];exact Nat.lt_of_le_of_lt hl (Nat.lt_of_lt_of_le (Nat.lt_of_lt_of_le hlt hn) (by decide))
   obtain ⟨F3,rs3,s3,r3⟩:=JQ.out (C:=C.sh k) jq rs2 s2 hlt y
   refine ⟨p2,F3,item i,_,rs3,r3,st,fun σ4 H4 ⟨p4,F4,rs4,s4,sh4,d4,q4⟩=>?_⟩
   refine upT1 rs4 q4 fun b p5 F5 H5 rs5 s5 sh5 q5=>?_
   have s15:Same F1 F5:=s2.trans (s3.trans (s4.trans s5))
   refine ite_imp (fun q5=>?_) (fun q5=>?_) q5
   ·refine up1 rs5 q5 fun e6 p6 v6 F6 H6 rs6 s6 sh6 er6 ⟨z,hz,q6⟩=>?_
    subst hz
    exact ⟨p6,F6,zs++[z],rs6,s15.trans s6,sh2.trans (sh4.trans (sh5.trans sh6)),d4.trans d2,(rz.mono (s3.trans (s4.trans (s5.trans s6)))).append (.cons er6 .nil),q6⟩
   ·exact ⟨p5,F5,zs,rs5,s15,sh2.trans (sh4.trans sh5),d4.trans d2,rz.mono (s3.trans (s4.trans s5)),q5⟩
  ·have e:i=n:=by omega
   subst e
   refine .inl ⟨jq.stop F2 H2 rs2.sub s2,fun A hA=>?_⟩
   have rs3:=rs2.unshift hkp
   rw [d2] at rs3
   refine hq _ _ (fin_new rs3 (s1.trans s2) (sh1.trans ⟨?_,fun j s h m=>?_⟩) hA rz (iend zs p2 i2))
   ·rw [List.length_drop,sh2.1,List.length_append,List.length_replicate,Nat.add_sub_cancel_left]
   ·obtain ⟨s',h',m'⟩:=sh2.2 (k+j) s (by rw [rep_at];exact h) m
    exact ⟨s',by rw [List.getElem?_drop];exact h',m'⟩⟩
theorem n_comp {elt iter tg:Expr} {ifs:List Expr} {scope:Scope} {N:List Str} {ti:TIQ} {g:TGQ} {tt:TTQ} {te:TQ} (S:CompScope X scope N k) (hc:X.calm=true) (hi:PI X tg iter (UpI C ti))
  (hg:∀Z s H fp,PG (cxComp X scope N Z s H fp) tg (UpGk (C.sh k) k g)) (ht:∀Z s H fp,PTs (cxComp X scope N Z s H fp) ifs (UpT (C.sh k) tt)) (he:∀Z s H fp,PE (cxComp X scope N Z s H fp) elt (Up (C.sh k) te))
  (hs:∀x,foldedSetIterable iter X.env x=pure x:=by intro _;rfl):PE X (.ListComp elt [⟨tg,iter,ifs,0⟩] scope pos) (UpN C (nComp k ti g tt te)):=
 QN.mk (pe_comp S hc hi hg ht he hs) fun p σ F H R rs ht=>comp_low rs ht fun _ _ h=>h
theorem s_setCompD {i:Nat} {x:Str} {elt iter tg:Expr} {ifs:List Expr} {scope:Scope} {N:List Str} {ti:TIQ} {g:TGQ} {tt:TTQ} {te:TQ} {pos' pos2:Pos} (hN:X.N.Nodup) (hi':X.N[i]? = some x) (hx:Loc X.env.scope x) (S:CompScope X scope N k) (hc:X.calm=true) (hi:PI X tg iter (UpI C ti))
  (hg:∀Z s H fp,PG (cxComp X scope N Z s H fp) tg (UpGk (C.sh k) k g)) (ht:∀Z s H fp,PTs (cxComp X scope N Z s H fp) ifs (UpT (C.sh k) tt)) (he:∀Z s H fp,PE (cxComp X scope N Z s H fp) elt (Up (C.sh k) te))
  (hsw:swapsWith (.ListComp elt [⟨tg,iter,ifs,0⟩] scope pos2) (some (.Name x pos')) pos.line X.env=pure true:=by rfl)
  (hs:∀x,foldedSetIterable iter X.env x=pure x:=by intro _;rfl) (hf:X.fn x=true\/X.env.scope.names.lookup x=some .local:=by first|exact .inl rfl|exact .inr rfl|assumption) :
  PS X (.Assign [.Name x pos'] (.ListComp elt [⟨tg,iter,ifs,0⟩] scope pos2) pos) (UpS C (qSet i (qFz (nComp k ti g tt te)))):=
 QS.mk (ps_setComp hN hi' hx S hc hi hg ht he hsw hs hf) fun p σ F H E rs ht=>comp_low (R:=fun r p1=>∃y,Ev.fz r.val=.fz y/\nbr p1 i=true/\E.nx (p1.set i (some (.d y)))) rs ht fun v H1 zq=>by
  obtain ⟨r,p1,F1,rs1,s1,sh,rr,y,hy,hn,q⟩:=zq
  obtain ⟨F2,rs2,s2,r2⟩:=rr.fz rs1
  cases hy
  exact ⟨_,F2,rs2.setD hn r2,s1.trans s2,q⟩
theorem RS.more {F2 H2:Hp} (rs:RS C p σ F H) (s1:Same H H2) (s2:Same F F2) (s3:Same F2 H2) (hn:∀x o,F2 x=some o->F x=some o\/H x=none):RS C p σ F2 H2:=by
 have still:∀x o,F x=none->H x=some o->F2 x=none:=fun x o h1 h2=>by
  cases q:F2 x with
  | none=>rfl
  | some u=>
   rcases hn x u q with z|z
   ·rw [h1] at z;cases z
   ·rw [h2] at z;cases z
 refine ⟨s3,rs.ext.trans s2,fun x o h=>?_,fun x o h n=>s1 _ _ (rs.keep x o h n),fun x h z=>?_,rs.len,fun i s h=>?_,rs.apart,rs.pin⟩
 ·rcases hn x o h with z|z
  ·exact rs.new x o z
  ·exact .inr (.inl (rs.free z).2.1)
 ·have:=rs.grow x h
  cases q:H x with
  | none=>exact this q
  | some u=>rw [s1 x u q] at z;cases z
 ·obtain ⟨v,e1,r⟩:=rs.sl i s h
  refine ⟨v,e1,?_⟩
  cases s with
  | d x=>exact Rep.mono s2 r
  | own xs=>obtain ⟨x,vs,z1,z2,z3,z4,z5⟩:=r;exact ⟨x,vs,z1,still x _ z2 z4,z3,s1 _ _ z4,z5.mono s2⟩
  | bor xs=>obtain ⟨x,vs,z1,z2,z3,z4,z5⟩:=r;exact ⟨x,vs,z1,still x _ z2 z4,z3,s1 _ _ z4,z5.mono s2⟩
def pairsOf (ds:List D):List D:=(List.range ds.length).map fun (i:Nat)=>.tup [.int (i:Int),ds.getD i .non]
def nListEn (ta:TQ):TN:=fun p Q=>ta p fun e p1=>∃ds,lk p1 e=.lst ds/\Q (.ro (pairsOf ds)) p1
theorem n_listEn {l:Expr} {p1 p2 pos2:Pos} (hK:X.K=C.K) (hc:X.calm=true) (hl:PE X l (Up C ta)) (hg:Gl X "list") (hm:X.mg "list"=none) (hg2:Gl X "enumerate") (hm2:X.mg "enumerate"=none)
  (hs:starEach [l] X.env=[(false,eval l X.env)]:=by rfl):PE X (.Call (.Name "list" p1) [.Call (.Name "enumerate" p2) [l] [] pos2] [] pos) (UpN C (nListEn ta)):=
 QN.mk (pe_listEnumK hK hc hl hg hm hg2 hm2 hs) fun p σ F H R rs ht=>up1 rs ht fun e1 p1 v1 F1 H1 rs1 s1 sh er1 zq=>by
  obtain ⟨ds,h1,q⟩:=zq
  obtain ⟨a1,vs,rfl,g,r⟩:=ev_lst rs1 er1 h1
  refine ⟨a1,vs,rfl,.of g,fun x ts H2 hx hts tl hH hr htup=>?_⟩
  have tl':ts.length=ds.length:=by rw [tl,r.length]
  have tupAt:∀(j:Nat) (t:Addr),ts[j]? = some t->∃v,vs[j]? = some v/\Rep C.K F1 (ds.getD j .non) v/\H2 t=some (.tup [.int (j:Int),v]):=fun j t hj=>by
   have hj':j<ds.length:=by rw [<-tl'];exact (List.getElem?_eq_some_iff.mp hj).1
   obtain ⟨v,e1,r1⟩:=r.get (getD_some hj')
   exact ⟨v,e1,r1,htup j t v hj e1⟩
  obtain ⟨F2,hF2⟩:∃F2:Hp,F2=fun b=>if b∈ts then H2 b else F1 b:=⟨_,rfl⟩
  have f1:Same F1 F2:=fun b o h=>by
   rw [hF2]
   show (if b∈ts then H2 b else F1 b)=some o
   by_cases hb:b∈ts
   ·have:=(hts b hb).1
    have h':=rs1.sub b o h
    rw [this] at h';cases h'
   ·rw [if_neg hb];exact h
  have f2:Same F2 H2:=fun b o h=>by
   rw [hF2] at h
   have h':(if b∈ts then H2 b else F1 b)=some o:=h
   by_cases hb:b∈ts
   ·rw [if_pos hb] at h';exact h'
   ·rw [if_neg hb] at h';exact hH b o (rs1.sub b o h')
  have f3:∀b o,F2 b=some o->F1 b=some o\/H1 b=none:=fun b o h=>by
   rw [hF2] at h
   have h':(if b∈ts then H2 b else F1 b)=some o:=h
   by_cases hb:b∈ts
   ·exact .inr (hts b hb).1
   ·rw [if_neg hb] at h';exact .inl h'
  have rs2:=rs1.more hH f1 f2 f3
  have fx:F2 x=none:=by
   cases q:F2 x with
   | none=>rfl
   | some o=>
    rw [hF2] at q
    have q':(if x∈ts then H2 x else F1 x)=some o:=q
    by_cases hb:x∈ts
    ·exact absurd rfl (hts x hb).2
    ·rw [if_neg hb] at q'
     have:=rs1.sub x o q'
     rw [hx] at this;cases this
  have rp:RepL C.K F2 (pairsOf ds) (ts.map V.ref):=by
   have all:∀(ts':List Addr) (es:List D),ts'.length=es.length->(∀(j:Nat) (t:Addr) (d:D),ts'[j]? = some t->es[j]? = some d->Rep C.K F2 d (.ref t))->RepL C.K F2 es (ts'.map V.ref):=by
    intro ts'
    induction ts' with
    | nil=>intro es hl _;cases es with
     | nil=>exact .nil
     | cons d r=>cases hl
    | cons t r ih=>intro es hl hh;cases es with
     | nil=>cases hl
     | cons d r'=>
      exact .cons (hh 0 t d rfl rfl) (ih r' (by simpa using hl) fun j t d h1 h2=>hh (j+1) t d (by simpa using h1) (by simpa using h2))
   refine all ts _ (by unfold pairsOf;rw [List.length_map,List.length_range,tl']) fun j t d h1 h2=>?_
   obtain ⟨v,e1,r1,e2⟩:=tupAt j t h1
   unfold pairsOf at h2
   have hj':j<ds.length:=by rw [<-tl'];exact (List.getElem?_eq_some_iff.mp h1).1
   rw [List.getElem?_map,List.getElem?_range hj'] at h2
   cases h2
   have hF:F2 t=some (.tup [.int (j:Int),v]):=by
    rw [hF2]
    show (if t∈ts then H2 t else F1 t)=_
    rw [if_pos (List.mem_of_getElem? h1)];exact e2
   exact .tup hF (.cons (.int _) (.cons (r1.mono f1) .nil))
  obtain ⟨z1,z2,z3⟩:=rs1.free hx
  exact ⟨.ro _,p1,F2,rs2,s1.trans f1,sh,⟨x,_,rfl,fx,z2,hr,rp,z3⟩,q⟩
end
theorem atl_0 {α:Type} (x:α) (xs:List α):atI (x::xs) 0=some x:=atI_nat (j:=0) rfl
theorem atl_1 {α:Type} (x y:α) (xs:List α):atI (x::y::xs) 1=some y:=atI_nat (j:=1) rfl
theorem atl_2 {α:Type} (x y z:α) (xs:List α):atI (x::y::z::xs) 2=some z:=atI_nat (j:=2) rfl
theorem atl_3 {α:Type} (x y z u:α) (xs:List α):atI (x::y::z::u::xs) 3=some u:=atI_nat (j:=3) rfl
theorem ixl_20:ixN 2 0=some 0:=rfl
theorem ixl_21:ixN 2 1=some 1:=rfl
theorem atD {ds:List D} {k:Int} (h0:0<=k) (h:k<(ds.length:Int)):atI ds k=some (ds.getD k.toNat .non):=by
 have hk:k.toNat<ds.length:=by omega
 have ek:k=((k.toNat:Nat):Int):=by omega
 have q:atI ds ((k.toNat:Nat):Int)=some (ds.getD k.toNat .non):=atI_nat (getD_some hk)
 rw [<-ek] at q
 exact q
theorem atInts {ns:List Int} {k:Int} (h0:0<=k) (h:k<(ns.length:Int)):atI (ns.map D.int) k=some (.int (ns.getD k.toNat 0)):=by
 have hk:k.toNat<ns.length:=by omega
 have ek:k=((k.toNat:Nat):Int):=by omega
 have q:atI (ns.map D.int) ((k.toNat:Nat):Int)=some (.int (ns.getD k.toNat 0)):=atI_nat (by rw [List.getElem?_map,List.getElem?_eq_getElem hk,List.getD_eq_getElem?_getD,List.getElem?_eq_getElem hk];rfl)
 rw [<-ek] at q
 exact q
theorem getD_ints {ns:List Int} {i:Nat} (h:i<ns.length):(ns.map D.int).getD i .non=.int (ns.getD i 0):=by
 rw [List.getD_eq_getElem?_getD,List.getElem?_map,List.getElem?_eq_getElem h,List.getD_eq_getElem?_getD,List.getElem?_eq_getElem h];rfl
theorem cut_take {α:Type} (xs:List α) (m:Nat):cut xs none (some (m:Int))=xs.take m:=by
 unfold cut
 rw [HT.sIx_none,HT.sIx_nat,List.drop_zero,Nat.sub_zero]
 by_cases h:m<=xs.length
 ·rw [Nat.min_eq_left h]
 ·rw [Nat.min_eq_right (by omega),List.take_of_length_le (Nat.le_refl _),List.take_of_length_le (by omega)]
theorem cut_takeI {α:Type} (xs:List α) {k:Int} (h:0<=k):cut xs none (some k)=xs.take k.toNat:=by
 have e:k=((k.toNat:Nat):Int):=by omega
 rw [e,cut_take];congr 1
theorem cut_drop {α:Type} (xs:List α) (m:Nat):cut xs (some (m:Int)) none=xs.drop m:=by
 unfold cut
 rw [HT.sIx_nat,HT.sIx_none]
 by_cases h:m<=xs.length
 ·rw [Nat.min_eq_left h,List.take_of_length_le (by rw [List.length_drop];exact Nat.le_refl _)]
 ·rw [Nat.min_eq_right (by omega),Nat.sub_self,List.take_zero,List.drop_eq_nil_of_le (by omega)]
theorem rep_ints (n:Nat) (x:Int):(List.replicate n [D.int x]).flatten=(List.replicate n x).map D.int:=by
 induction n with
 | zero=>rfl
 | succ n ih=>rw [List.replicate_succ,List.flatten_cons,ih,List.replicate_succ];rfl
theorem for_q {ti:TIQ} {g:TGQ} {tb:TSQ} {E:PEnds} {p:PSt} {n:Nat} {item:Nat->D} {p1:PSt} (hti:∀Q:Nat->(Nat->D)->PSt->Prop,Q n item p1->ti p Q) (I:Nat->PSt->Prop) (h0:I 0 p1)
  (hs:∀i p2,i<n->I i p2->g (item i) p2 fun p3=>tb { E with nx:=I (i+1),ct:=I (i+1),bk:=E.nx } p3) (hd:∀p2,I n p2->E.nx p2):qFor ti g tb E p:=hti _ ⟨I,h0,hs,hd⟩
theorem while_q {c:TTQ} {tb:TSQ} {E:PEnds} {p:PSt} (I:PSt->Prop) (μ:PSt->Nat) (h0:I p)
  (hs:∀p1,I p1->c p1 fun b p2=>if b=true then tb { E with nx:=fun q=>I q/\μ q<μ p1,ct:=fun q=>I q/\μ q<μ p1,bk:=E.nx } p2 else E.nx p2):qWhile c tb E p:=⟨I,μ,h0,hs⟩
theorem comp_q {k:Nat} {ti:TIQ} {g:TGQ} {tt:TTQ} {te:TQ} {Q:Rt->PSt->Prop} {p:PSt} {n:Nat} {item:Nat->D} {p1:PSt} (hti:∀Q:Nat->(Nat->D)->PSt->Prop,Q n item p1->ti p Q) (hn:n<=100000) (I:Nat->List D->PSt->Prop) (h0:I 0 [] (List.replicate k none++p1))
  (hl:∀i ys p2,I i ys p2->ys.length<=i)
  (hs:∀i ys p2,i<n->I i ys p2->g (item i) p2 fun p3=>tt p3 fun b p4=>if b=true then te p4 fun e p5=>∃y,e=.fz y/\I (i+1) (ys++[y]) p5 else I (i+1) ys p4) (hd:∀ys p2,I n ys p2->Q (.ro ys) (p2.drop k)):nComp k ti g tt te p Q:=
 hti _ ⟨I,h0,hn,fun i ys p2 hi h=>⟨hl i ys p2 h,hs i ys p2 hi h⟩,hd⟩
theorem comp_filter {ti:TIQ} {tt:TTQ} {te:TQ} {Q:Rt->PSt->Prop} {p:PSt} {n:Nat} {item:Nat->D} {p1:PSt} (hti:∀Q:Nat->(Nat->D)->PSt->Prop,Q n item p1->ti p Q) (hn:n<=100000) (t:Nat->Bool) (f:Nat->D)
  (hs:∀i (R:Bool->PSt->Prop),i<n->R (t i) (some (.d (item i))::p1)->tt (some (.d (item i))::p1) R)
  (he:∀i (R:Ev->PSt->Prop),i<n->t i=true->R (.fz (f i)) (some (.d (item i))::p1)->te (some (.d (item i))::p1) R) (hd:Q (.ro (((List.range n).filter t).map f)) p1):nComp 1 ti (gkName 0) tt te p Q:=by
 refine comp_q hti hn (fun i ys p2=>ys=((List.range i).filter t).map f/\∃o:Option D,p2=(o.map Sl.d)::p1) ⟨rfl,none,rfl⟩ (fun i ys p2 h=>by
  rw [h.1,List.length_map]
  exact Nat.le_trans (List.length_filter_le _ _) (by rw [List.length_range];exact Nat.le_refl _)) ?_ ?_
 ·rintro i ys p2 hi ⟨rfl,o,rfl⟩
  refine ⟨by cases o<;>rfl,?_⟩
  show tt (some (.d (item i))::p1) _
  refine hs i _ hi ?_
  cases ht:t i with
  | true=>
   rw [if_pos rfl]
   refine he i _ hi ht ⟨_,rfl,?_,some (item i),rfl⟩
   rw [List.range_succ,List.filter_append,List.map_append]
   simp [ht]
  | false=>
   rw [if_neg Bool.false_ne_true]
   refine ⟨?_,some (item i),rfl⟩
   rw [List.range_succ,List.filter_append]
   simp [ht]
 ·rintro ys p2 ⟨rfl,o,rfl⟩
  exact hd
end L2
namespace L2
open PySem
section
variable {o:Option Sl} {p:PSt} {i:Nat} {x:D} {xs ys:List D} {u:Option D}
theorem nb_s:nbr (o::p) (i+1)=nbr p i:=rfl
theorem nb_n:nbr (none::p) 0=true:=rfl
theorem nb_d:nbr (some (.d x)::p) 0=true:=rfl
theorem nb_o:nbr (some (.own xs)::p) 0=true:=rfl
theorem nb_u:nbr (Option.map Sl.d u::p) 0=true:=by cases u<;>rfl
theorem mu_s:mutL (o::p) (i+1)=mutL p i:=rfl
theorem mu_n:mutL (none::p) 0=none:=rfl
theorem mu_d:mutL (some (.d x)::p) 0=none:=rfl
theorem mu_o:mutL (some (.own xs)::p) 0=some xs:=rfl
theorem mu_b:mutL (some (.bor xs)::p) 0=some xs:=rfl
theorem mu_u:mutL (Option.map Sl.d u::p) 0=none:=by cases u<;>rfl
theorem pu_s:putL (o::p) (i+1) ys=o::putL p i ys:=by
 unfold putL
 rw [List.getElem?_cons_succ]
 cases h:p[i]? with
 | none=>rfl
 | some s=>cases s<;>rfl
theorem pu_0 {s:Sl}:putL (some s::p) 0 ys=some (s.put ys)::p:=rfl
end
theorem seq_cutP {t R:TSQ} {E:PEnds} {p:PSt} (I:PSt->Prop) (h:∀k:PSt->Prop,(∀p',I p'->k p')->t { E with nx:=k } p) (hR:∀p',I p'->R E p'):qSeq t R E p:=h (R E) hR
theorem seq_goP {t R:TSQ} {E:PEnds} {p:PSt} (h:t { E with nx:=R E } p):qSeq t R E p:=h
def Any:Option (D ⊕ List D)->Option Sl
 | none=>none
 | some (.inl x)=>some (.d x)
 | some (.inr xs)=>some (.own xs)
theorem nb_a {w:Option (D ⊕ List D)} {p:PSt}:nbr (Any w::p) 0=true:=by
 cases w with
 | none=>rfl
 | some x=>cases x<;>rfl
theorem eqd_00:EqDom (.lst []) (.lst [])=True:=eq_true (.li ⟨[],rfl⟩ ⟨[],rfl⟩)
theorem AllI.map (ns:List Int):AllI (ns.map D.int):=⟨ns,rfl⟩
theorem snoc_of {α:Type} (xs:List α) (h:xs≠[]):∃ys y,xs=ys++[y]:=⟨xs.dropLast,xs.getLast h,(List.dropLast_concat_getLast h).symm⟩
theorem atDN {ds:List D} {k:Int} {j:Nat} (e:k=(j:Int)) (h:j<ds.length):atI ds k=some (ds.getD j .non):=by
 subst e
 have:=atD (ds:=ds) (k:=(j:Int)) (by omega) (by omega)
 simpa using this
theorem for_i {ti:TIQ} {g:TGQ} {tb:TSQ} {E:PEnds} {p:PSt} (h:ti p fun n item p1=>∃I:Nat->PSt->Prop,I 0 p1/\(∀i p2,i<n->I i p2->g (item i) p2 fun p3=>tb { E with nx:=I (i+1),ct:=I (i+1),bk:=E.nx } p3)/\∀p2,I n p2->E.nx p2):qFor ti g tb E p:=h
theorem args_scr {K:PySem.W.Frag} {H:Hp} {a:Addr} {ns:List Int} (h:SqL K H a (ns.map V.int)):ArgsR K H H [.d (.scr ns)] [.ref a]:=by
 refine ⟨rfl,fun i s e=>?_,fun i j xs ys x hij e1 e2 _ _=>?_⟩
 ·cases i with
  | zero=>simp at e;subst e;exact ⟨.ref a,rfl,.scr h⟩
  | succ i=>simp at e
 ·cases i with
  | zero=>simp at e1
  | succ i=>simp at e1
end L2
namespace L2
open PySem PySem.Spec PyProof.Rows
mutual
def toP:D->PyData
 | .non=>.none
 | .bl b=>.bool b
 | .int i=>.int i
 | .str x=>.str x
 | .lst xs=>.list (toPs xs)
 | .tup xs=>.tuple (toPs xs)
 | .atom _=>.none
 | .scr ns=>.list (ns.map PyData.int)
 | .dic _ _=>.none
 | .exc _=>.none
 | .exb=>.none
def toPs:List D->List PyData
 | []=>[]
 | x::xs=>toP x::toPs xs
end
mutual
def plain:D->Bool
 | .atom _=>false
 | .dic _ _=>false
 | .exc _=>false
 | .exb=>false
 | .lst xs=>plains xs
 | .tup xs=>plains xs
 | _=>true
def plains:List D->Bool
 | []=>true
 | x::xs=>plain x && plains xs
end
theorem reads_ints {h:Heap}:∀{ns:List Int} {its:List Value},Vals (ns.map V.int) its->∃as,ReadsAll h its (ns.map PyData.int) as
 | [],_,r=>by cases r;exact ⟨_,.nil⟩
 | n::ns,_,r=>by
  cases r with
  | cons h1 t=>
   obtain ⟨tk,rfl⟩:=h1
   obtain ⟨as,ra⟩:=reads_ints (ns:=ns) t
   exact ⟨_,.cons (.int _ _) ra⟩
section
variable {X:Cx} {pins:List (Addr × Obj)} {s:Shared} {σ:St} {H F:Hp}
theorem reads_list {h:Heap} {a:Addr} {its:List Value} {xs:List PyData} {as:List Addr} (pl:h.IsList a its.toArray) (ra:ReadsAll h its xs as):Reads h (.ref a) (.list xs) (a::as):=by
 obtain ⟨o,h1,h2,n,h3⟩:=pl
 exact .list h1 h2 h3 ra
theorem reads_tup {h:Heap} {a:Addr} {its:List Value} {xs:List PyData} {as:List Addr} (pl:IsTup h a its.toArray) (ra:ReadsAll h its xs as):Reads h (.ref a) (.tuple xs) as:=by
 obtain ⟨o,h1,h2,n,h3⟩:=pl
 exact .tuple h1 h2 h3 ra
mutual
theorem reads_of (I:Inv X pins σ H s) (sm:Same F H):∀{d:D} {v:V} {u:Value},Rep X.K F d v->plain d=true->RelV v u->∃as,Reads s.heap u (toP d) as
 | _,_,_,.non,_,r=>by cases r;exact ⟨_,.none⟩
 | _,_,_,.bl b,_,r=>by cases r;exact ⟨_,.bool b⟩
 | _,_,_,.int i,_,r=>by obtain ⟨t,rfl⟩:=r;exact ⟨_,.int i t⟩
 | _,_,_,.str x,_,r=>by obtain ⟨t,rfl⟩:=r;exact ⟨_,.str x t⟩
 | _,_,_,.atom v,hp,_=>by simp [plain] at hp
 | _,_,_,.dic _ _ _,hp,_=>by simp [plain] at hp
 | _,_,_,.exc _,hp,_=>by simp [plain] at hp
 | _,_,_,.exb _,hp,_=>by simp [plain] at hp
 | _,_,_,.lst q rl,hp,r=>by
  cases r
  obtain ⟨its,rv,pl,_⟩:=I.list (.of (sm _ _ q))
  obtain ⟨as,ra⟩:=readsL_of I sm rl (by simpa only [plain] using hp) rv
  exact ⟨_,reads_list pl.isList ra⟩
 | _,_,_,.tup q rl,hp,r=>by
  cases r
  obtain ⟨its,rv,pl,_⟩:=I.tuple (.inl (.inl (sm _ _ q)))
  obtain ⟨as,ra⟩:=readsL_of I sm rl (by simpa only [plain] using hp) rv
  exact ⟨_,reads_tup pl ra⟩
 | _,_,_,.scr q,_,r=>by
  cases r
  obtain ⟨its,rv,pl,_⟩:=I.list (sm.seq q)
  obtain ⟨as,ra⟩:=reads_ints (h:=s.heap) rv
  exact ⟨_,reads_list pl.isList ra⟩
theorem readsL_of (I:Inv X pins σ H s) (sm:Same F H):∀{ds:List D} {vs:List V} {us:List Value},RepL X.K F ds vs->plains ds=true->Vals vs us->∃as,ReadsAll s.heap us (toPs ds) as
 | _,_,_,.nil,_,r=>by cases r;exact ⟨_,.nil⟩
 | _,_,_,.cons q rl,hp,r=>by
  cases r with
  | cons h1 t=>
   have hp':=hp
   simp only [plains,Bool.and_eq_true] at hp'
   obtain ⟨as,ra⟩:=reads_of I sm q hp'.1 h1
   obtain ⟨bs,rb⟩:=readsL_of I sm rl hp'.2 t
   exact ⟨_,.cons ra rb⟩
end
end
def shownL (ds:List D):Str:=(PyData.list (toPs ds)).shown
structure ShowOk (ds:List D):Prop where
 pl:plains ds=true
 sh:(PyData.list (toPs ds)).showable=true
 nd:(PyData.list (toPs ds)).hasDict=false
 dp:(PyData.list (toPs ds)).depth<=60
 sz:(shownL ds).length<=sizeLine
section
variable {X:Cx} {C:Pc} {a b c e:Expr} {ta:TQ} {tas:TAQ} {pos ps:Pos} {K:PySem.W.Frag}
def rRepr (K:PySem.W.Frag):List V->Hp->VK->Prop:=fun xs H Q=>∃(a:Addr) (vs:List V) (ds:List D) (F:Hp),xs=[.ref a]/\SqL K H a vs/\Same F H/\RepL K F ds vs/\ShowOk ds/\Q (.str (shownL ds)) H
theorem call_repr (hg:X.A.guards=some []) (hu:X.A.units+64<cLine):CallR X (.builtin "repr") (rRepr X.K):=by
 intro pins s σ H xs us Q I r h
 obtain ⟨a,vs,ds,F,rfl,hq,sm,rl,⟨hp,h1,h4,h3,h2⟩,q⟩:=h
 obtain ⟨u,rfl,ru⟩:=vals1 r
 cases ru
 obtain ⟨its,rv,pl,hz⟩:=I.list hq
 obtain ⟨as,ra⟩:=readsL_of I sm rl hp rv
 exact repr_of_reads' (reads_list pl.isList ra) h1 (PyData.noDict_hsm h4) hg (by omega) (fun _ _ e=>e) (fun h' u tk hk=>⟨.str _,H,I.kept hk,⟨_,rfl⟩,q⟩) h2
theorem call_reprK (h:X.K=K) (hg:X.A.guards=some []) (hu:X.A.units+64<cLine):CallR X (.builtin "repr") (rRepr K):=by subst h;exact call_repr hg hu
end
theorem plains_ints:∀ns:List Int,plains (ns.map D.int)=true
 | []=>rfl
 | n::ns=>by simp only [List.map_cons,plains,plain,plains_ints ns,Bool.and_self]
theorem toPs_ints:∀ns:List Int,toPs (ns.map D.int)=ns.map PyData.int
 | []=>by simp only [List.map_nil,toPs]
 | n::ns=>by simp only [List.map_cons,toPs,toP,toPs_ints ns]
theorem depthAll_ints:∀ns:List Int,PyData.depthAll (ns.map PyData.int)=0
 | []=>by simp only [List.map_nil,PyData.depthAll]
 | n::ns=>by simp only [List.map_cons,PyData.depthAll,PyData.depth,depthAll_ints ns,Nat.max_self]
theorem eqd_l2 (ns:List Int) (x y:Int):EqDom (.lst (ns.map D.int)) (.lst [.int x,.int y])=True:=eq_true (.li ⟨ns,rfl⟩ ⟨[x,y],rfl⟩)
theorem deq_l2 (ns:List Int) (x y:Int):deq (.lst (ns.map D.int)) (.lst [.int x,.int y])=decide (ns=[x,y]):=deq_ints ns [x,y]
theorem eqd_l3 (ns:List Int) (x y z:Int):EqDom (.lst (ns.map D.int)) (.lst [.int x,.int y,.int z])=True:=eq_true (.li ⟨ns,rfl⟩ ⟨[x,y,z],rfl⟩)
theorem deq_l3 (ns:List Int) (x y z:Int):deq (.lst (ns.map D.int)) (.lst [.int x,.int y,.int z])=decide (ns=[x,y,z]):=deq_ints ns [x,y,z]
theorem eqd_l4 (ns:List Int) (x y z w:Int):EqDom (.lst (ns.map D.int)) (.lst [.int x,.int y,.int z,.int w])=True:=eq_true (.li ⟨ns,rfl⟩ ⟨[x,y,z,w],rfl⟩)
theorem deq_l4 (ns:List Int) (x y z w:Int):deq (.lst (ns.map D.int)) (.lst [.int x,.int y,.int z,.int w])=decide (ns=[x,y,z,w]):=deq_ints ns [x,y,z,w]
def RdV (K:PySem.W.Frag) (H:Hp) (d:D) (v:V):Prop:=∃F,Same F H/\(Rep K F d v\/∃(a:Addr) (vs:List V) (ds:List D),v=.ref a/\d=.lst ds/\H a=some (.lst vs)/\RepL K F ds vs)
section
variable {X:Cx} {C:Pc} {pins:List (Addr × Obj)} {s:Shared} {σ:St} {H F:Hp}
theorem RdV.reads {d:D} {v:V} {u:Value} (h:RdV X.K H d v) (I:Inv X pins σ H s) (hp:plain d=true) (r:RelV v u):∃as,Reads s.heap u (toP d) as:=by
 obtain ⟨F,sm,h|⟨a,vs,ds,rfl,rfl,q,rl⟩⟩:=h
 ·exact reads_of I sm h hp r
 ·cases r
  obtain ⟨its,rv,pl,_⟩:=I.list (.of q)
  obtain ⟨as,ra⟩:=readsL_of I sm rl (by simpa only [plain] using hp) rv
  exact ⟨_,by simp only [toP];exact reads_list pl.isList ra⟩
theorem ev_rd {p:PSt} {e:Ev} {v:V} (rs:RS C p σ F H) (er:EvR C.K p σ F e v):RdV C.K H (lk p e) v:=by
 cases e with
 | fz x=>exact ⟨F,rs.sub,.inl er⟩
 | ow i=>
  obtain ⟨⟨s,h1,m⟩,h2⟩:=er
  obtain ⟨w,e1,sr⟩:=rs.sl i s h1
  rw [h2] at e1;cases e1
  have el:lk p (.ow i)=s.val:=by show (match p[i]? with|some (some s)=>s.val|_=>.non)=_;rw [h1]
  rw [el]
  cases s with
  | d x=>cases m
  | own xs=>obtain ⟨a,vs,rfl,_,_,q,rl⟩:=sr;exact ⟨F,rs.sub,.inr ⟨a,vs,xs,rfl,rfl,q,rl⟩⟩
  | bor xs=>obtain ⟨a,vs,rfl,_,_,q,rl⟩:=sr;exact ⟨F,rs.sub,.inr ⟨a,vs,xs,rfl,rfl,q,rl⟩⟩
end
structure DOk (d:D):Prop where
 pl:plain d=true
 ly:(toP d).canLay0=true
 dp:(toP d).depth<=30
def deqv (x y:D):Bool:=PyData.eqv (toP x) (toP y)
section
variable {X:Cx} {C:Pc} {a b c e:Expr} {ta tb:TQ} {pos ps:Pos} {K:PySem.W.Frag}
def rEqD (K:PySem.W.Frag) (f:Bool->Bool):R2:=fun x y H Q=>∃dx dy,RdV K H dx x/\RdV K H dy y/\DOk dx/\DOk dy/\Q (.bl (f (deqv dx dy))) H
theorem op_eqD (hu:X.A.units+64<cLine):OpR X (compareOp .Eq) (rEqD X.K fun k=>k):=by
 intro pins s σ H x y v u Q I rx ry h
 obtain ⟨dx,dy,h1,h2,o1,o2,q⟩:=h
 obtain ⟨as,ra⟩:=h1.reads I o1.pl rx
 obtain ⟨bs,rb⟩:=h2.reads I o2.pl ry
 exact SeqAt.compareEq_reads ra rb o1.ly o2.ly (by have:=o1.dp;omega) ⟨.bl _,H,I,rfl,q⟩
theorem op_eqDK (h:X.K=K) (hu:X.A.units+64<cLine):OpR X (compareOp .Eq) (rEqD K fun k=>k):=by subst h;exact op_eqD hu
def qEqD (f:Bool->Bool) (ta tb:TQ):TQ:=fun p Q=>ta p fun e1 p1=>tb p1 fun e2 p2=>DOk (lk p2 e1)/\DOk (lk p2 e2)/\Q (.fz (.bl (f (deqv (lk p2 e1) (lk p2 e2))))) p2
theorem t_eqD (hK:X.K=C.K) (hu:X.A.units+64<cLine) (ha:PE X a (Up C ta)) (hb:PE X b (Up C tb)):PT X (.Compare a [.Eq] [b] pos) (UpT C (qTest (qEqD (fun k=>k) ta tb))):=
 QT.mk (pt_cmpR (op_eqDK hK hu) ha hb (nomark _)) fun p σ F H R rs ht=>up2 rs ht fun e1 e2 p1 v1 v2 F1 H1 rs1 s1 sh er1 er2 zq=>by obtain ⟨o1,o2,k,hk,q⟩:=zq;exact ⟨_,_,ev_rd rs1 er1,ev_rd rs1 er2,o1,o2,k,by cases hk;rfl,p1,F1,rs1,s1,sh,q⟩
end
theorem canLay_ints:∀ns:List Int,PyData.canLayAll0 (ns.map PyData.int)=true
 | []=>by simp only [List.map_nil,PyData.canLayAll0]
 | n::ns=>by simp only [List.map_cons,PyData.canLayAll0,PyData.canLay0,canLay_ints ns,Bool.and_self]
theorem dok_int (n:Int):DOk (.int n):=⟨by simp only [plain],by simp only [toP,PyData.canLay0],by simp only [toP,PyData.depth];decide⟩
theorem dok_ints (ns:List Int):DOk (.lst (ns.map D.int)):=⟨by simp only [plain,plains_ints],by simp only [toP,toPs_ints,PyData.canLay0,canLay_ints],by simp only [toP,toPs_ints,PyData.depth,depthAll_ints];decide⟩
theorem deqv_int (i j:Int):deqv (.int i) (.int j)=decide (i=j):=by
 unfold deqv
 simp only [toP,PyData.eqv]
 by_cases h:i=j
 ·subst h;simp
 ·simp [h]
section
variable {X:Cx} {C:Pc} {a b c e o:Expr} {ta tb:TQ} {tas:TAQ} {pos ps apos:Pos} {K:PySem.W.Frag}
def rCnt (K:PySem.W.Frag):V->List V->Hp->VK->Prop:=fun x vs H Q=>∃dx ds y,vs=[y]/\RdV K H (.lst ds) x/\RdV K H dx y/\DOk dx/\DOk (.lst ds)/\Q (.int ((ds.countP fun z=>deqv z dx:Nat):Int)) H
theorem countP_toPs {d:PyData}:∀ds:List D,(toPs ds).countP (fun y=>PyData.eqv y d)=ds.countP (fun z=>PyData.eqv (toP z) d)
 | []=>by simp only [toPs,List.countP_nil]
 | x::xs=>by simp only [toPs,List.countP_cons,countP_toPs xs]
theorem mt_count (hu:X.A.units+64<cLine):MtR X "list.count" (rCnt X.K):=by
 intro pins s σ H x vs v us Q I rx rv h
 obtain ⟨dx,ds,y,rfl,h1,h2,o1,o2,q⟩:=h
 obtain ⟨u,rfl,ru⟩:=rv.one
 obtain ⟨as,ra⟩:=h1.reads I o2.pl rx
 obtain ⟨bs,rb⟩:=h2.reads I o1.pl ru
 have ly:=o2.ly
 simp only [toP] at ra ly
 simp only [PyData.canLay0] at ly
 generalize hx:toPs ds=xs at *
 cases ra with
 | @list a ob its n _ as g1 g2 g3 g4=>
  obtain ⟨cls,dd,data,sl⟩:=ob
  simp only at g2 g3
  subst g2 g3
  refine call_meets F.slot_list_count ⟨_,g1,rfl⟩ F.entry_list_count (F.args_list_count_2 _ _) (SeqAt.list_countAt a its n dd sl u (fun y=>PyData.eqv (SeqAt.readOf s.heap y) (toP dx))) ⟨g1,SeqAt.items_eqAt g4 rb ly o1.ly (by have:=o1.dp;omega),?_⟩
  have e:its.toList.countP (fun y=>PyData.eqv (SeqAt.readOf s.heap y) (toP dx))=ds.countP (fun z=>deqv z dx):=by
   have h3:=SeqAt.readsAll_map _ _ _ ly g4
   have h4:=countP_toPs (d:=toP dx) ds
   rw [hx,<-h3,List.countP_map] at h4
   exact h4
  rw [e]
  exact ⟨.int _,H,I.kept (h':=s.heap) (t':=s.toks+1) fun _ _ e=>e,⟨_,rfl⟩,q⟩
theorem mt_countK (h:X.K=K) (hu:X.A.units+64<cLine):MtR X "list.count" (rCnt K):=by subst h;exact mt_count hu
def qCnt (to:TQ) (ta:TAQ):TQ:=fun p Q=>to p fun e1 p1=>(∃ds,lk p1 e1=.lst ds)/\ta p1 fun es p2=>∃e2 ds,es=[e2]/\lk p2 e1=.lst ds/\DOk (lk p2 e2)/\DOk (.lst ds)/\Q (.fz (.int ((ds.countP fun z=>deqv z (lk p2 e2):Nat):Int))) p2
theorem m_count {to:TQ} (hK:X.K=C.K) (hu:X.A.units+64<cLine) (ho:PE X o (Up C to)) (ha:PA X [e] (UpA C tas))
  (hbase:attributeBase o "count" X.env (eval o X.env)=eval o X.env:=by rfl)
  (hfew:((backTo pos (starEach [e] X.env)).all (fun x=>!x.1) && (backToKw pos (keywordEach [] X.env)).all (fun x=>x.1.isSome)
   && decide ([e].length+([]:List Keyword).length+(if ([]:List Keyword).isEmpty then 0 else 1)<30))=true:=by rfl)
  (hline:(apos.endLine == pos.line)=true:=by rfl) (hs:starEach [e] X.env=(false,eval e X.env)::starEach [] X.env:=by rfl):PE X (.Call (.Attribute o "count" apos) [e] [] pos) (Up C (qCnt to tas)):=by
 refine QE.mk (pe_bm PySem.F.plainAttrs_list PySem.F.slot_list_count PySem.F.type_list_count (mt_countK hK hu) ho ha hbase hfew hline hs rfl) fun p σ F H R rs ht=>?_
 rw [hK]
 refine up1 rs ht fun e1 p1 v1 F1 H1 rs1 s1 sh er1 ⟨⟨ds,hd⟩,ht⟩=>?_
 obtain ⟨a1,vs,rfl,g,r⟩:=ev_lst rs1 er1 hd
 refine ⟨.inl ⟨rfl,vs,.of g⟩,upA1 rs1 ht fun es2 p2 vs2 F2 H2 rs2 s2 sh2 er2 ⟨e2,ds2,h2,h3,o1,o2,q⟩=>?_⟩
 obtain ⟨v,rfl,er⟩:=evs1 er2 h2
 exact ⟨_,ds2,v,rfl,by rw [<-h3];exact ev_rd rs2 (er1.mono s2 sh2),ev_rd rs2 er,o1,o2,fin_ev rs2 (s1.trans s2) (sh.trans sh2) (.int _) q⟩
end
section
variable {X:Cx} {C:Pc} {a b c e:Expr} {ta tb tc:TQ} {tas:TAQ} {pos ps ps2:Pos} {K:PySem.W.Frag} {p:PSt} {σ:St} {F H:Hp}
theorem jq_rev {x:Addr} {vs:List V} {ds:List D} (h:F x=some (.lst vs)) (r:RepL K F ds vs):JQ K (Itv K x vs.length) ds.length (fun i=>ds.getD (ds.length - 1 - i) .non) F:=by
 have sq:∀{F1 H:Hp},Same F1 H->Same F F1->SqL K H x vs:=fun rs s=>.of (rs _ _ (s _ _ h))
 have el:=r.length
 refine ⟨fun i F1 H rs s hi=>?_,fun i F1 H v H' rs s hi y=>?_,fun F1 H rs s=>?_⟩
 ·obtain ⟨v,e1,_⟩:=r.get (getD_some (show ds.length - 1 - i<ds.length by omega))
  exact ⟨vs,v,sq rs s,rfl,by omega,by rw [<-el];exact e1⟩
 ·obtain ⟨e1,e2⟩:=y
  subst e1
  obtain ⟨w,e3,r3⟩:=r.get (getD_some (show ds.length - 1 - i<ds.length by omega))
  have:=e2 vs (sq rs s)
  rw [<-el,e3] at this;cases this
  exact .inl ⟨rfl,r3.mono s⟩
 ·show vs.length=ds.length
  omega
def iqV (ta:TAQ):TIQ:=fun p Q=>ta p fun es p1=>∃e ds,es=[e]/\e=.fz (.lst ds)/\Q ds.length (fun i=>ds.getD (ds.length - 1 - i) .non) p1
theorem i_rev {tg:Expr} (hK:X.K=C.K) (hg:Gl X "reversed") (hm:X.mg "reversed"=none) (ha:PA X [a] (UpA C tas)) (hs:starEach [a] X.env=[(false,eval a X.env)]:=by rfl):PI X tg (.Call (.Name "reversed" ps) [a] [] pos) (UpI C (iqV tas)):=
 QI.mk (pi_revK hK hg hm ha hs) fun p σ F H R rs ht=>upA1 rs ht fun es1 p1 vs1 F1 H1 rs1 s1 sh er1 zq=>by
  obtain ⟨e1,ds,h0,h1,q⟩:=zq
  obtain ⟨v,rfl,er⟩:=evs1 er1 h0
  subst h1
  cases er with
  | lst q1 r1=>exact ⟨_,_,rfl,.of (rs1.sub _ _ q1),_,_,p1,F1,rs1,s1,sh,jq_rev q1 r1,q⟩
def qMaxL (ta:TAQ):TQ:=fun p Q=>ta p fun es p1=>∃(e:Ev) (ns:List Int),es=[e]/\lk p1 e=.lst (ns.map D.int)/\ns≠[]/\∀M:Int,M∈ns->(∀b∈ns,b<=M)->Q (.fz (.int M)) p1
theorem cb_maxL (hK:X.K=C.K) (hc:X.calm=true) (hg:Gl X "max") (hm:X.mg "max"=none) (ha:PA X [e] (UpA C tas)) (he:starEach [e] X.env=(false,eval e X.env)::starEach [] X.env:=by rfl):PE X (.Call (.Name "max" ps) [e] [] pos) (Up C (qMaxL tas)):=
 QE.mk (pe_callB (call_maxLK hK hc) hg hm (by kernel_rfl) ha (he:=he)) fun p σ F H R rs ht=>upA1 rs ht fun es1 p1 vs1 F1 H1 rs1 s1 sh er1 zq=>by
  obtain ⟨e1,ns,h1,h2,h3,q⟩:=zq
  obtain ⟨v,rfl,er⟩:=evs1 er1 h1
  obtain ⟨a1,vs,rfl,g,r⟩:=ev_lst rs1 er h2
  rw [r.ints] at g
  exact ⟨a1,ns,rfl,.of g,h3,fun M m1 m2=>fin_ev rs1 s1 sh (.int _) (q M m1 m2)⟩
def hasK (k:Key) (ks:List Key):Bool:=ks.any fun x=>decide (x=k)
theorem hasK_iff {k:Key} {ks:List Key}:hasK k ks=true ↔ k∈ks:=by
 unfold hasK
 rw [List.any_eq_true]
 constructor
 ·rintro ⟨x,h1,h2⟩;have:=of_decide_eq_true h2;subst this;exact h1
 ·intro h;exact ⟨k,h,decide_eq_true rfl⟩
theorem valV_zip {k:Key}:∀{ks:List Key} {vs:List V},ks.length=vs.length->(valV (ks.zip vs) k).isSome=hasK k ks
 | [],[],_=>by simp [valV_nil,hasK]
 | x::ks,v::vs,h=>by
  have ih:=valV_zip (k:=k) (ks:=ks) (vs:=vs) (by simpa using h)
  rw [List.zip_cons_cons]
  unfold hasK at ih ⊢
  rw [List.any_cons]
  by_cases e:x=k
  ·rw [valV_pos (p:=(x,v)) e,decide_eq_true e];rfl
  ·rw [valV_neg (p:=(x,v)) e,ih,decide_eq_false e,Bool.false_or]
 | [],_::_,h=>by simp at h
 | _::_,[],h=>by simp at h
def qInDic (f:Bool->Bool) (ta tb:TQ):TQ:=fun p Q=>ta p fun e1 p1=>tb p1 fun e2 p2=>∃i ks ds,lk p2 e1=.int i/\lk p2 e2=.dic ks ds/\Q (.fz (.bl (f (hasK (Sum.inl i) ks)))) p2
theorem din_low {R:Ev->PSt->Prop} {G:V->Hp->Prop} (rs:RS C p σ F H) (ht:ta p fun e1 p1=>tb p1 fun e2 p2=>∃i ks ds,lk p2 e1=.int i/\lk p2 e2=.dic ks ds/\R (.fz (.bl (hasK (Sum.inl i) ks))) p2)
  (k:∀(b:Bool) p1 F1 H1,RS C p1 σ F1 H1->Same F F1->Shp p p1->R (.fz (.bl b)) p1->G (.bl b) H1):tDIn (Up C ta) (Up C tb) σ H G:=
 up2 rs ht fun e1 e2 p1 v1 v2 F1 H1 rs1 s1 sh er1 er2 zq=>by
  obtain ⟨i,ks,ds,h1,h2,q⟩:=zq
  obtain ⟨a1,vs,rfl,g,l,r⟩:=ev_dic rs1 er2 h2
  rw [ev_int er1 h1]
  refine ⟨a1,_,rfl,DGet.k (k:=Sum.inl i) g,?_⟩
  rw [valV_zip l]
  exact k _ p1 F1 H1 rs1 s1 sh q
theorem q_inDic (hu:X.A.units+64<cLine) (ha:PE X a (Up C ta)) (hb:PE X b (Up C tb)) (hm:behindInMarks .In b=false:=by rfl):PE X (.Compare a [.In] [b] pos) (Up C (qInDic (fun k=>k) ta tb)):=
 QE.mk (pe_cmp (pc_din (by omega) ha hb) hm) fun p σ F H R rs ht=>din_low rs ht fun b p1 F1 H1 rs1 s1 sh q=>fin_ev rs1 s1 sh (.bl _) q
theorem t_inDic (hu:X.A.units+64<cLine) (ha:PE X a (Up C ta)) (hb:PE X b (Up C tb)) (hm:behindInMarks .In b=false:=by rfl):PT X (.Compare a [.In] [b] pos) (UpT C (qTest (qInDic (fun k=>k) ta tb))):=
 QT.mk (pt_cmp (pc_din (by omega) ha hb) hm) fun p σ F H R rs ht=>din_low (R:=fun e p1=>∃b,lk p1 e=.bl b/\R b p1) rs ht fun b p1 F1 H1 rs1 s1 sh zq=>by obtain ⟨k,hk,q⟩:=zq;exact ⟨k,by cases hk;rfl,p1,F1,rs1,s1,sh,q⟩
theorem putK_zip {k:Key} {v:V} {ks:List Key} {vs:List V} (l:ks.length=vs.length) (h:k ∉ ks):putK (ks.zip vs) k v=(ks++[k]).zip (vs++[v]):=by
 rw [putK_new,List.zip_append l]
 ·rfl
 ·have:=valV_zip (k:=k) l
  have hf:hasK k ks=false:=by
   cases z:hasK k ks with
   | false=>rfl
   | true=>exact absurd (hasK_iff.mp z) h
  rw [hf] at this
  cases q:valV (ks.zip vs) k with
  | none=>rfl
  | some x=>rw [q] at this;cases this
def qSetDC (i k:Nat) (ti:TIQ) (g:TGQ) (tt:TTQ) (tk tv:TQ):TSQ:=fun E p=>ti p fun n item p1=>∃I:Nat->List Key->List D->PSt->Prop,I 0 [] [] (List.replicate k none++p1)/\n<=100000 /\
 (∀j ks ds p2,j<n->I j ks ds p2->ks.length<=j/\g (item j) p2 fun p3=>tt p3 fun b p4=>if b=true then tk p4 fun e p5=>tv p5 fun e' p6=>∃(y:D) (kk:Int),lk p6 e=.int kk/\e'=.fz y/\Sum.inl kk ∉ ks/\I (j+1) (ks++[Sum.inl kk]) (ds++[y]) p6 else I (j+1) ks ds p4) /\
 ∀ks ds p2,I n ks ds p2->nbr (p2.drop k) i=true/\E.nx ((p2.drop k).set i (some (.d (.dic ks ds))))
theorem s_setDC {i k:Nat} {x:Str} {kx vx iter tg:Expr} {ifs:List Expr} {scope:Scope} {N:List Str} {ti:TIQ} {g:TGQ} {tt:TTQ} {tk tv:TQ} {pos' pos2:Pos} (hN:X.N.Nodup) (hi':X.N[i]? = some x) (hx:Loc X.env.scope x) (S:CompScope X scope N k) (hc:X.calm=true) (hi:PI X tg iter (UpI C ti))
  (hg:∀Z s H fp,PG (cxComp X scope N Z s H fp) tg (UpGk (C.sh k) k g)) (ht:∀Z s H fp,PTs (cxComp X scope N Z s H fp) ifs (UpT (C.sh k) tt)) (hk:∀Z s H fp,PE (cxComp X scope N Z s H fp) kx (Up (C.sh k) tk)) (hv:∀Z s H fp,PE (cxComp X scope N Z s H fp) vx (Up (C.sh k) tv))
  (hsw:swapsWith (.DictComp kx vx [⟨tg,iter,ifs,0⟩] scope pos2) (some (.Name x pos')) pos.line X.env=pure true:=by rfl)
  (hs:∀x,foldedSetIterable iter X.env x=pure x:=by intro _;rfl) (hf:X.fn x=true\/X.env.scope.names.lookup x=some .local:=by first|exact .inl rfl|exact .inr rfl|assumption) :
  PS X (.Assign [.Name x pos'] (.DictComp kx vx [⟨tg,iter,ifs,0⟩] scope pos2) pos) (UpS C (qSetDC i k ti g tt tk tv)):=
 QS.mk (ps_setCompD hN hi' hx S hc hi hg ht hk hv hsw hs hf) fun p σ F H E rs ht=>⟨p,F,_,rs,ht,fun J H1 zq=>by
  obtain ⟨n,item,p1,F1,rs1,s1,sh1,jq,I,i0,hn,istep,iend⟩:=zq
  have lp:p1.length=σ.length:=rs1.len
  refine ⟨fun j m kvs σ2 H2=>m=n - j/\j<=n/\∃p2 F2 ks vs ds,kvs=ks.zip vs/\ks.length=vs.length/\RS (C.sh k) p2 σ2 F2 H2/\Same F1 F2/\Shp (List.replicate k none++p1) p2/\σ2.drop k=σ/\RepL C.K F2 ds vs/\I j ks ds p2,⟨n,by simp,Nat.zero_le _,_,F1,[],[],[],rfl,rfl,rs1.shift,.refl _,.refl _,by simp,.nil,i0⟩,?_⟩
  rintro j m kvs σ2 H2 ⟨rfl,hj,p2,F2,ks,vs,ds,rfl,lkv,rs2,s2,sh2,d2,rz,i2⟩
  have hkp:k<=p2.length:=by
   have:=sh2.1
   rw [List.length_append,List.length_replicate] at this
   omega
  by_cases hlt:j<n
  ·obtain ⟨hl,st⟩:=istep j ks ds p2 hlt i2
   refine .inr ⟨jq.go j F2 H2 rs2.sub s2 hlt,?_,fun kvs' σ' H'=>∃p' F' ks' vs' ds',kvs'=ks'.zip vs'/\ks'.length=vs'.length/\RS (C.sh k) p' σ' F' H'/\Same F1 F'/\Shp (List.replicate k none++p1) p'/\σ'.drop k=σ/\RepL C.K F' ds' vs'/\I (j+1) ks' ds' p',fun _ _ _ h=>⟨n - (j+1),by omega,rfl,hlt,h⟩,fun x H' y=>?_⟩
   ·rw [List.length_zip,<-lkv,Nat.min_self];exact Nat.lt_of_le_of_lt hl (Nat.lt_of_lt_of_le (Nat.lt_of_lt_of_le hlt hn) (by decide))
   obtain ⟨F3,rs3,s3,r3⟩:=JQ.out (C:=C.sh k) jq rs2 s2 hlt y
   refine ⟨p2,F3,item j,_,rs3,r3,st,fun σ4 H4 ⟨p4,F4,rs4,s4,sh4,d4,q4⟩=>?_⟩
   refine upT1 rs4 q4 fun b p5 F5 H5 rs5 s5 sh5 q5=>?_
   have s15:Same F1 F5:=s2.trans (s3.trans (s4.trans s5))
   refine ite_imp (fun q5=>?_) (fun q5=>?_) q5
   ·refine up1 rs5 q5 fun e6 p6 v6 F6 H6 rs6 s6 sh6 er6 q6=>?_
    refine up1 rs6 q6 fun e7 p7 v7 F7 H7 rs7 s7 sh7 er7 ⟨z,kk,hkk,hz,hnew,q7⟩=>?_
    subst hz
    have ev6:=ev_int (er6.mono s7 sh7) hkk
    refine ⟨Sum.inl kk,ev6,p7,F7,ks++[Sum.inl kk],vs++[v7],ds++[z],putK_zip lkv hnew,by rw [List.length_append,List.length_append,lkv];rfl,rs7,s15.trans (s6.trans s7),sh2.trans (sh4.trans (sh5.trans (sh6.trans sh7))),d4.trans d2,(rz.mono (s3.trans (s4.trans (s5.trans (s6.trans s7))))).append (.cons er7 .nil),q7⟩
   ·exact ⟨p5,F5,ks,vs,ds,rfl,lkv,rs5,s15,sh2.trans (sh4.trans sh5),d4.trans d2,rz.mono (s3.trans (s4.trans s5)),q5⟩
  ·have e:j=n:=by omega
   subst e
   refine .inl ⟨jq.stop F2 H2 rs2.sub s2,fun A hA=>?_⟩
   have rs3:=rs2.unshift hkp
   rw [d2] at rs3
   obtain ⟨hb,hq⟩:=iend ks ds p2 i2
   obtain ⟨z1,z2,z3⟩:=rs3.free hA
   have rs4:=rs3.put (a:=A) (o:=.dK (ks.zip vs)) hA
   exact ⟨_,_,rs4.setD hb (.dic upd_same lkv (rz.mono (same_upd z1 _))),(s1.trans s2).trans (same_upd z1 _),hq⟩⟩
end
end L2
namespace L2
open PySem
theorem ex_ss {a:Sl} {P:Sl->Prop}:(∃s,some (some a)=some (some s)/\P s)=P a:=propext ⟨fun zq=>by obtain ⟨s,e,h⟩:=zq;cases e;exact h,fun h=>⟨a,rfl,h⟩⟩
theorem ex_int {a:Int} {P:Int->Prop}:(∃i,D.int a=D.int i/\P i)=P a:=propext ⟨fun zq=>by obtain ⟨s,e,h⟩:=zq;cases e;exact h,fun h=>⟨a,rfl,h⟩⟩
theorem ex_int2 {a b:Int} {P:Int->Int->Prop}:(∃i j,D.int a=D.int i/\D.int b=D.int j/\P i j)=P a b:=propext ⟨fun zq=>by obtain ⟨s,t,e,e',h⟩:=zq;cases e;cases e';exact h,fun h=>⟨a,b,rfl,rfl,h⟩⟩
theorem ex_bl {a:Bool} {P:Bool->Prop}:(∃i,D.bl a=D.bl i/\P i)=P a:=propext ⟨fun zq=>by obtain ⟨s,e,h⟩:=zq;cases e;exact h,fun h=>⟨a,rfl,h⟩⟩
theorem ex_fz {a:D} {P:D->Prop}:(∃i,Ev.fz a=Ev.fz i/\P i)=P a:=propext ⟨fun zq=>by obtain ⟨s,e,h⟩:=zq;cases e;exact h,fun h=>⟨a,rfl,h⟩⟩
theorem ex_fzl {a:List D} {P:List D->Prop}:(∃i,Ev.fz (D.lst a)=Ev.fz (D.lst i)/\P i)=P a:=propext ⟨fun zq=>by obtain ⟨s,e,h⟩:=zq;cases e;exact h,fun h=>⟨a,rfl,h⟩⟩
theorem ex_some {α:Type} {a:α} {P:α->Prop}:(∃i,some a=some i/\P i)=P a:=propext ⟨fun zq=>by obtain ⟨s,e,h⟩:=zq;cases e;exact h,fun h=>⟨a,rfl,h⟩⟩
theorem ex_lst {a:List D} {P:List D->Prop}:(∃i,D.lst a=D.lst i/\P i)=P a:=propext ⟨fun zq=>by obtain ⟨s,e,h⟩:=zq;cases e;exact h,fun h=>⟨a,rfl,h⟩⟩
theorem ex_own {a:List D} {P:List D->Prop}:(∃i,some (some (Sl.own a))=some (some (Sl.own i))/\P i)=P a:=propext ⟨fun zq=>by obtain ⟨s,e,h⟩:=zq;cases e;exact h,fun h=>⟨a,rfl,h⟩⟩
theorem ex_tup {a:List D} {P:List D->Prop}:(∃i,D.tup a=D.tup i/\P i)=P a:=propext ⟨fun zq=>by obtain ⟨s,e,h⟩:=zq;cases e;exact h,fun h=>⟨a,rfl,h⟩⟩
theorem ex_e1 {α:Sort _} {a:Ev} {P:Ev->α->Prop}:(∃e x,[a]=[e]/\P e x)=∃x,P a x:=propext ⟨fun zq=>by obtain ⟨s,x,e,h⟩:=zq;cases e;exact ⟨x,h⟩,fun ⟨x,h⟩=>⟨a,x,rfl,h⟩⟩
theorem ss_and {α:Type} {a:α} {P:Prop}:(a=a/\P)=P:=by simp
end L2
namespace L2
open PySem PySem.Spec PyProof.Rows
abbrev XSp:=List Sl->Addr->Prop
def spX (K:PySem.W.Frag) (S:XSp):Sp:=fun vs H _ E=>∃as F Cl,Same F H/\ArgsR K F H as vs/\S as Cl/\∀F' H',Post K F H as vs (.rd .non) as .non F' H'->E (.ref Cl) none H'
def GX (C:Pc) (XE:Addr->PSt->Prop):Addr->St->Hp->Prop:=fun Cl σ H=>∃p F,RS C p σ F H/\XE Cl p
def Pc.at (C:Pc) (F0:Hp):Pc:={ C with F0:=F0 }
section
variable {X:Cx} {C:Pc} {a b c e:Expr} {ta tb:TQ} {pos np cpos p0:Pos} {p:PSt} {σ:St} {F H:Hp} {st:Stmt} {rest:List Stmt} {es:List Expr} {tas:TAQ} {XE:Addr->PSt->Prop} {x:Str} {t:TSQ}
theorem RS.at (rs:RS C p σ F H):RS (C.at F) p σ F H:=⟨rs.sub,.refl _,fun _ _ h=>.inl h,rs.keep,rs.grow,rs.len,fun i s h=>rs.sl i s h,rs.apart,rs.pin⟩
theorem RS.unat {p':PSt} {σ':St} {F' H':Hp} (rs:RS C p σ F H) (rs':RS (C.at F) p' σ' F' H'):RS C p' σ' F' H'/\Same F F':=
 ⟨⟨rs'.sub,rs.ext.trans rs'.ext,fun a o h=>by
   rcases rs'.new a o h with z|z|z
   ·exact rs.new a o z
   ·exact .inr (.inl z)
   ·exact .inr (.inr z),rs'.keep,rs'.grow,rs'.len,fun i s h=>rs'.sl i s h,rs'.apart,rs'.pin⟩,rs'.ext⟩
def nCallX (S:XSp) (XE:Addr->PSt->Prop) (t:TAQ):TN:=fun p _=>t p fun es p1=>∃as Cl,argsOf p1 es=some as/\(owIx es).Nodup/\S as Cl/\XE Cl (back p1 es as)
theorem n_callX {ps:List Str} {k:Nat} {S:XSp} (hK:X.K=C.K) (D:DefAt X.K X.mg x st ps) (G:FnOk X.prog X.w X.K X.mg X.base (CXX X.prog X.w) k D.f D.fd ps (spX X.K S)) (hr:Room k X.A) (lk:LnkG X (GX C XE)) (ha:PA X (e::es) (UpA C tas))
  (hg:Gl X x:=by rfl) (hdb:(x == ("__debug__":Str))=false:=by decide) (he:starEach (e::es) X.env=(false,eval e X.env)::starEach es X.env:=by rfl) (hpl:(backTo pos (starEach es X.env)).any (·.1)=false:=by rfl) :
  PE X (.Call (.Name x p0) (e::es) [] pos) (UpN C (nCallX S XE tas)):=
 QN.mk (pe_callX D G hr lk ha hg hdb he hpl) fun p σ F H R rs ht=>upA1 rs ht fun es1 p1 vs1 F1 H1 rs1 s1 sh er1 zq=>by
  obtain ⟨as,Cl,h1,nd,hS,q⟩:=zq
  rw [hK]
  exact ⟨as,F1,Cl,rs1.sub,(args_ok rs1 er1 h1 nd).1,hS,fun F' H' po=>⟨Cl,rfl,_,F',(rs1.call er1 h1 nd po).1,q⟩⟩
def qRaise (XE:Addr->PSt->Prop) (Cl:Addr) (t:TAQ):TSQ:=fun _ p=>t p fun es p1=>es.length<=9/\XE Cl p1
theorem s_L {Cl:Addr} (c:XCl X.K X.mg x Cl) (hc:X.calm=true) (lk:LnkR X (GX C XE)) (ha:PA X (e::es) (UpA C tas))
  (hg:Gl X x:=by rfl) (hdb:(x == ("__debug__":Str))=false:=by decide) (he:starEach (e::es) X.env=(false,eval e X.env)::starEach es X.env:=by rfl) (hpl:(backTo cpos (starEach es X.env)).any (·.1)=false:=by rfl) :
  PS X (.Raise (some (.Call (.Name x np) (e::es) [] cpos)) none pos) (UpS C (qRaise XE Cl tas)):=
 QS.mk (ps_raise c hc lk ha hg hdb he hpl) fun p σ F H E rs ht=>upA1 rs ht fun es1 p1 vs1 F1 H1 rs1 s1 sh er1 ⟨hl,q⟩=>⟨by
  rw [<-(evs_get er1).1];exact Nat.le_trans hl (by decide),_,F1,rs1,q⟩
def qCut (t:TSQ):TSQ:=fun E p=>t { E with nx:=fun _=>False } p
theorem s_cut (h1:PS X st (UpS C t)):PSs X (st::rest) (UpS C (qCut t)):=fun pins s σ H De I zq=>by
 obtain ⟨p,F,E,rs,ht,l⟩:=zq
 refine wpAny_execs_cons (thn (h1 pins s σ H _ I ⟨p,F,{ E with nx:=fun _=>False },rs,ht,Ends.Le.refl _⟩) fun f s1 q=>?_)
 cases f with
 | next=>obtain ⟨_,_,_,_,_,_,_,z⟩:=q;exact z.elim
 | ret u=>obtain ⟨v,σ',H',I',r,q⟩:=q;exact ⟨v,σ',H',I',r,l.rt _ _ q⟩
 | brk=>obtain ⟨σ',H',I',q⟩:=q;exact ⟨σ',H',I',l.bk _ _ q⟩
 | cont=>obtain ⟨σ',H',I',q⟩:=q;exact ⟨σ',H',I',l.ct _ _ q⟩
end
section
variable {P:Program} {w:World} {K:PySem.W.Frag} {mg:Str->Option Value} {base:Heap}
theorem Fun.okX {x qual:Str} {st:Stmt} {f:Addr} {fd:FuncData} {N ps:List Str} {k:Nat} {S:XSp} (Fn:Fun K x qual st f fd) (Sc:FnScope N ps (defScope st)) (len:∀as Cl,S as Cl->as.length=ps.length/\∀(i:Nat) (s:Sl),as[i]? = some s->∃d,s=.d d)
  (hbody:∀(cdv:Value) (A:Around) (outer:List Env) (s:Shared) (H:Hp) (E:XK) (C:Pc) (as:List Sl) (Cl:Addr) (XE:Addr->PSt->Prop),K=C.K->Room k (A.deeper (envOfC qual (defScope st) s.heap.objs.size f cdv))->S as Cl->(XE=fun c _=>c=Cl)->
   LnkG (cxOf (CXX P w) P w K mg base N qual (defScope st) f cdv A outer s H E) (GX C XE)->LnkR (cxOf (CXX P w) P w K mg base N qual (defScope st) f cdv A outer s H E) (GX C XE)->
   ∃t,PSs (cxOf (CXX P w) P w K mg base N qual (defScope st) f cdv A outer s H E) (defBody st) (UpS C t)/\t { nx:=fun _=>False,rt:=fun _ _=>False } (startP N as)):FnOk P w K mg base (CXX P w) (k+1) f fd ps (spX K S):=by
 obtain ⟨oc,od,kV,doc,pm,an,cdv,ct,osl,rfl,lk,hcd⟩:=Fn.ex
 refine fn_of lk hcd Sc (fun vs H Q E zq=>by obtain ⟨as,F,Cl,_,h2,h3,_⟩:=zq;rw [<-h2.len];exact (len as Cl h3).1) fun A outer s H vs Q E hr ⟨as,F,Cl,sFH,ar,hS,hq⟩=>?_
 have al:=(len as Cl hS).2
 have post:∀{p1:PSt} {σ1:St} {F1 H1:Hp},RS ⟨K,F,H,[]⟩ p1 σ1 F1 H1->E (.ref Cl) none H1:=fun {p1 σ1 F1 H1} rs1=>by
  refine hq F1 H1 ⟨rs1.ext,rs1.sub,rs1.new,fun a o h _=>rs1.keep a o h (fun q hq=>by cases hq),rs1.grow,fun i xs h=>?_,.non⟩
  obtain ⟨d,e⟩:=al i _ h
  cases e
 obtain ⟨t,ht,tq⟩:=hbody cdv A outer s H E ⟨K,F,H,[]⟩ as Cl _ rfl hr hS rfl
  (fun pins σ H1 s1 H' s' a C' I I' tr zq=>by obtain ⟨p1,F1,rs1,e⟩:=zq;subst e;exact pass_leave I I' tr (post rs1))
  (fun pins σ H1 s1 s' a C' args I m e0 zq=>by obtain ⟨p1,F1,rs1,e⟩:=zq;subst e;exact raise_leave (t:=a) I m e0 (post rs1))
 have getP:∀(i:Nat) (s:Sl),(startP N as)[i]? = some (some s)->as[i]? = some s:=fun i s h=>by
  unfold startP at h
  by_cases hi:i<as.length
  ·rw [List.getElem?_append_left (by simpa using hi)] at h
   simpa using h
  ·rw [List.getElem?_append_right (by simpa using Nat.le_of_not_lt hi),List.getElem?_replicate] at h
   split at h<;>cases h
 have rs:RS ⟨K,F,H,[]⟩ (startP N as) (start N vs) F H:=by
  refine ⟨sFH,.refl _,fun a o h=>.inl h,fun a o h _=>h,fun a h=>h,?_,fun i s h=>?_,fun i j s s' a hij e1 m1 e2 m2 x1 x2=>?_,fun q hq=>by cases hq⟩
  ·unfold startP start
   rw [List.length_append,List.length_append,List.length_map,List.length_map,List.length_replicate,List.length_replicate,ar.len]
  ·have h':=getP i s h
   obtain ⟨v,h1,h2⟩:=ar.at_ i s h'
   obtain ⟨d,rfl⟩:=al i s h'
   refine ⟨v,?_,h2⟩
   unfold start
   have hi:=(List.getElem?_eq_some_iff.mp h1).1
   rw [List.getElem?_append_left (by simpa using hi)]
   simpa using h1
  ·obtain ⟨d,rfl⟩:=al i s (getP i s e1)
   cases m1
 exact ⟨_,ht,startP N as,F,_,rs,tq,⟨fun _ _ ⟨_,_,_,_,z⟩=>z.elim,fun _ _ ⟨_,_,_,_,_,_,_,z⟩=>z.elim,fun _ _ ⟨_,_,_,_,z⟩=>z.elim,fun _ _ ⟨_,_,_,_,z⟩=>z.elim⟩⟩
end
section
variable {K:PySem.W.Frag} {C N M NM:Addr} {nm q nm' q':Str} {bs bs':List Value} {hd ab hd' ab':Bool} {sn sn':List Str} {sub sub':List Value} {col col':Option Bool} {dd dd':Option Addr} {k0 k1 k2 k3 k5 j0 j1 j2 j3 j5:Option Value}
def strKeys (es:Array DictEntry):Bool:=es.toList.all fun e=>match e.key with|.str _ _=>true|_=>false
theorem nsOk_of {oc:Value} {od:Option Addr} {es:Array DictEntry} {ep:Nat} {sl:Array (Option Value)} (l:K.lookup N=some ⟨oc,od,.dict es ep,sl⟩) (h:strKeys es=true):PySem.W.nsOkIn K N=true:=by
 unfold PySem.W.nsOkIn
 rw [l]
 show (es.all fun e=>match e.key with|.str _ _=>true|_=>false)=true
 rw [<-Array.all_toList]
 exact h
theorem exc_base (l:K.lookup C=some (excClassObj nm q C N bs vbm hd sn sub ab col dd k0 k1 k2 k3 k5 "ValueError.__new__")) (o:PySem.W.nsOkIn K N=true) (i:PySem.W.nsIn K N "__init__"=some none):PySem.W.excIn K C vbm "ValueError.__new__"=true:=by
 have t:PySem.W.tailIn K vbm vbm=true:=by unfold PySem.W.tailIn;simp
 unfold PySem.W.excIn
 rw [l]
 simp [t,o,i]
theorem exc_sub (l:K.lookup C=some (excClassObj nm q C N bs (.ref M::vbm) hd sn sub ab col dd k0 k1 k2 k3 k5 "ValueError.__new__")) (o:PySem.W.nsOkIn K N=true) (i:PySem.W.nsIn K N "__init__"=some none)
  (l':K.lookup M=some (excClassObj nm' q' M NM bs' vbm hd' sn' sub' ab' col' dd' j0 j1 j2 j3 j5 "ValueError.__new__")) (o':PySem.W.nsOkIn K NM=true) (i':PySem.W.nsIn K NM "__init__"=some none):PySem.W.excIn K C vbm "ValueError.__new__"=true:=by
 have t:PySem.W.tailIn K vbm vbm=true:=by unfold PySem.W.tailIn;simp
 have t':PySem.W.tailIn K vbm (.ref M::vbm)=true:=by
  rw [PySem.W.tailIn]
  simp only [l',o',i',t]
  simp
 unfold PySem.W.excIn
 rw [l]
 simp [t',o,i]
theorem kit_own {t:Value} {b:Bool} (c:PySem.W.isClsIn K C=true) (y:PySem.W.typeIn K (.ref C)=some (.type "type")) (s:PySem.W.subIn K t (.ref C)=some b) (h:t=.ref C->b=true):PySem.W.kitOne K t (.ref C)=some b:=by
 unfold PySem.W.kitOne
 by_cases e:t=.ref C
 ·rw [if_pos (by rw [e];simp),h e]
 ·rw [if_neg (by simp [e])]
  unfold PySem.W.kitCls
  have c':(PySem.W.clsIn K C).isSome=true:=c
  simp only [c',y]
  exact s
theorem kit_ty {t:Value} {T:String} {b:Bool} (m:PySem.W.kitMeta T=true) (s:PySem.W.subIn K t (.type T)=some b) (h:t=.type T->b=true):PySem.W.kitOne K t (.type T)=some b:=by
 unfold PySem.W.kitOne
 by_cases e:t=.type T
 ·rw [if_pos (by rw [e];simp),h e]
 ·rw [if_neg (by simp [e])]
  unfold PySem.W.kitCls
  simp only [m,if_true]
  exact s
theorem kit_ne {C':Addr} (s:PySem.W.subIn K (.ref C') (.ref C)=some false) (s':PySem.W.subIn K (.ref C) (.ref C)=some true):(Value.ref C':Value)=.ref C->false=true:=fun e=>by
 cases e
 rw [s] at s'
 cases s'
end
section
variable {X:Cx} {pins:List (Addr × Obj)} {s:Shared} {σ:St} {H F:Hp}
def RKs (P:Program) (w:World) (h:Heap) (us:List Value) (ds:List PyData):Prop:=∃as bs,ReadsAll h us ds as/\ReadAtMost h (PyData.depthAll ds) bs/\ReprAllK P w bs h (PyData.depthAll ds) us (PyData.shownAll ds)
theorem rk_nil {P:Program} {w:World} {h:Heap}:RKs P w h [] []:=⟨[],[],.nil,(fun _ z=>nomatch z),by simp only [PyData.shownAll];exact .nil⟩
end
structure DN (k:Nat) (d:D):Prop where
 pl:plain d=true
 ly:(toP d).canLay0=true
 dp:(toP d).depth<=k
theorem DN.dok {k:Nat} {d:D} (h:DN k d) (hk:k<=30):DOk d:=⟨h.pl,h.ly,Nat.le_trans h.dp hk⟩
theorem dn_all {k:Nat}:∀{ds:List D},(∀x∈ds,DN k x)->plains ds=true/\PyData.canLayAll0 (toPs ds)=true/\PyData.depthAll (toPs ds)<=k
 | [],_=>by simp [plains,toPs,PyData.canLayAll0,PyData.depthAll]
 | x::xs,h=>by
  have h1:=h x List.mem_cons_self
  obtain ⟨a,b,c⟩:=dn_all fun y hy=>h y (List.mem_cons_of_mem _ hy)
  refine ⟨by simp only [plains,h1.pl,a,Bool.and_self],by simp only [toPs,PyData.canLayAll0,h1.ly,b,Bool.and_self],?_⟩
  simp only [toPs,PyData.depthAll];exact Nat.max_le.mpr ⟨h1.dp,c⟩
theorem dn_lst {k:Nat} {ds:List D} (h:∀x∈ds,DN k x):DN (k+1) (.lst ds):=by
 obtain ⟨a,b,c⟩:=dn_all h
 exact ⟨by simpa only [plain] using a,by simpa only [toP,PyData.canLay0] using b,by simp only [toP,PyData.depth];omega⟩
theorem dn_int (i:Int):DN 0 (.int i):=⟨rfl,by simp only [toP,PyData.canLay0],Nat.le_refl _⟩
structure PN (k n:Nat) (d:D):Prop where
 pl:plain d=true
 sh:(toP d).showable=true
 nd:(toP d).hasDict=false
 dp:(toP d).depth<=k
 sz:(toP d).shown.length<=n
theorem PN.mono {k n k' n':Nat} {d:D} (h:PN k n d) (hk:k<=k') (hn:n<=n'):PN k' n' d:=⟨h.pl,h.sh,h.nd,Nat.le_trans h.dp hk,Nat.le_trans h.sz hn⟩
theorem pn_all {k n:Nat}:∀{ds:List D},(∀x∈ds,PN k n x)->plains ds=true/\PyData.showableAll (toPs ds)=true/\PyData.hasDictAll (toPs ds)=false/\PyData.depthAll (toPs ds)<=k/\((PyData.shownAll (toPs ds)).map (·.length)).sum<=n * ds.length/\(PyData.shownAll (toPs ds)).length=ds.length
 | [],_=>by simp [plains,toPs,PyData.showableAll,PyData.hasDictAll,PyData.depthAll,PyData.shownAll]
 | x::xs,h=>by
  have h1:=h x List.mem_cons_self
  obtain ⟨a,b,c,d,e,f⟩:=pn_all fun y hy=>h y (List.mem_cons_of_mem _ hy)
  refine ⟨?_,?_,?_,?_,?_,?_⟩
  ·simp only [plains,h1.pl,a,Bool.and_self]
  ·simp only [toPs,PyData.showableAll,h1.sh,b,Bool.and_self]
  ·simp only [toPs,PyData.hasDictAll,h1.nd,c,Bool.or_self]
  ·simp only [toPs,PyData.depthAll];exact Nat.max_le.mpr ⟨h1.dp,d⟩
  ·simp only [toPs,PyData.shownAll,List.map_cons,List.sum_cons,List.length_cons]
   have:=h1.sz
   rw [Nat.mul_succ];omega
  ·simp only [toPs,PyData.shownAll,List.length_cons,f]
theorem pn_tup {k n:Nat} {ds:List D} (h:∀x∈ds,PN k n x):PN (k+1) ((n+2) * ds.length+3) (.tup ds):=by
 obtain ⟨a,b,c,d,e,f⟩:=pn_all h
 refine ⟨by simpa only [plain] using a,by simpa only [toP,PyData.showable] using b,by simpa only [toP,PyData.hasDict] using c,?_,?_⟩
 ·simp only [toP,PyData.depth];omega
 ·simp only [toP,PyData.shown]
  have:=tupleText_len_le (PyData.shownAll (toPs ds))
  rw [Nat.add_mul];omega
theorem pn_lst {k n:Nat} {ds:List D} (h:∀x∈ds,PN k n x):PN (k+1) ((n+2) * ds.length+3) (.lst ds):=by
 obtain ⟨a,b,c,d,e,f⟩:=pn_all h
 refine ⟨by simpa only [plain] using a,by simpa only [toP,PyData.showable] using b,by simpa only [toP,PyData.hasDict] using c,?_,?_⟩
 ·simp only [toP,PyData.depth];omega
 ·simp only [toP,PyData.shown]
  have:=listText_len_le (PyData.shownAll (toPs ds))
  rw [Nat.add_mul];omega
theorem PN.okL {k n:Nat} {ds:List D} (h:PN k n (.lst ds)) (hk:k<=60) (hn:n<=sizeLine):ShowOk ds:=
 ⟨by simpa only [plain] using h.pl,by simpa only [toP] using h.sh,by simpa only [toP] using h.nd,by have:=h.dp;simp only [toP] at this;omega,by have:=h.sz;simp only [toP] at this;unfold shownL;omega⟩
def Pc.add (C:Pc) (W:Hp):Pc:=⟨C.K,C.F0,fun a=>match W a with|some o=>some o|none=>C.H0 a,C.bs⟩
def Hp0:Hp:=fun _=>none
def Hld (o:HO):Prop:=(∃vs,o=.lst vs)\/(∃kvs,o=.dK kvs)\/∃kvs,o=.dT kvs
structure WOk (C:Pc) (W:Hp):Prop where
 lst:∀a o,W a=some o->Hld o
 h0:∀a o,W a=some o->C.H0 a=none
 f0:∀a o,W a=some o->C.F0 a=none
 bs:∀a o,W a=some o->∀q∈C.bs,q.2≠a
theorem WOk.nil (C:Pc):WOk C Hp0:=⟨fun _ _ h=>(nomatch h),fun _ _ h=>(nomatch h),fun _ _ h=>(nomatch h),fun _ _ h=>(nomatch h)⟩
section
variable {X:Cx} {C:Pc} {W:Hp} {p:PSt} {σ:St} {F H:Hp} {a:Addr} {o:HO}
theorem add_some (h:W a=some o):(C.add W).H0 a=some o:=by show (match W a with|some o=>some o|none=>C.H0 a)=_;rw [h]
theorem add_none (h:W a=none):(C.add W).H0 a=C.H0 a:=by show (match W a with|some o=>some o|none=>C.H0 a)=_;rw [h]
theorem of_add (h:(C.add W).H0 a=none):W a=none/\C.H0 a=none:=by
 cases e:W a with
 | none=>exact ⟨rfl,by rw [<-add_none (C:=C) e];exact h⟩
 | some o=>rw [add_some e] at h;cases h
theorem WOk.non (ok:WOk C W) (h:C.H0 a=some o):W a=none:=by
 cases e:W a with
 | none=>rfl
 | some u=>rw [ok.h0 a u e] at h;cases h
theorem RS.wH (rs:RS (C.add W) p σ F H) (ok:WOk C W) (h:W a=some o):H a=some o:=rs.keep a o (add_some h) (ok.bs a o h)
theorem RS.wF (rs:RS (C.add W) p σ F H) (ok:WOk C W) (h:W a=some o):F a=none:=by
 cases e:F a with
 | none=>rfl
 | some u=>
  rcases rs.new a u e with z|z|⟨xs,z⟩
  ·rw [show (C.add W).F0 a=C.F0 a from rfl,ok.f0 a o h] at z;cases z
  ·rw [add_some h] at z;cases z
  ·have:=rs.sub a u e
   rw [rs.wH ok h,z] at this
   rcases ok.lst a o h with ⟨vs,rfl⟩|⟨vs,rfl⟩|⟨vs,rfl⟩<;>cases this
theorem RS.un (rs:RS (C.add W) p σ F H) (ok:WOk C W):RS C p σ F H:=by
 refine ⟨rs.sub,rs.ext,fun b u e=>?_,fun b u e n=>rs.keep b u (by rw [add_none (ok.non e)];exact e) n,fun b n=>rs.grow b fun z=>n (of_add z).2,rs.len,fun i s e=>?_,rs.apart,rs.pin⟩
 ·rcases rs.new b u e with z|z|z
  ·exact .inl z
  ·exact .inr (.inl (of_add z).2)
  ·exact .inr (.inr z)
 ·obtain ⟨v,e1,r⟩:=rs.sl i s e
  refine ⟨v,e1,?_⟩
  cases s with
  | d x=>exact r
  | own xs=>obtain ⟨b,vs,z1,z2,z3,z4,z5⟩:=r;exact ⟨b,vs,z1,z2,(of_add z3).2,z4,z5⟩
  | bor xs=>exact r
theorem RS.ad (rs:RS C p σ F H) (hW:∀a o,W a=some o->H a=some o/\F a=none)
  (ho:∀(i:Nat) (xs:List D) (a:Addr),p[i]? = some (some (.own xs))->σ[i]? = some (some (.ref a))->W a=none):RS (C.add W) p σ F H:=by
 refine ⟨rs.sub,rs.ext,fun b u e=>?_,fun b u e n=>?_,fun b n=>?_,rs.len,fun i s e=>?_,rs.apart,rs.pin⟩
 ·rcases rs.new b u e with z|z|z
  ·exact .inl z
  ·refine .inr (.inl ?_)
   cases q:W b with
   | none=>rw [add_none q];exact z
   | some w=>rw [(hW b w q).2] at e;cases e
  ·exact .inr (.inr z)
 ·cases q:W b with
  | none=>rw [add_none q] at e;exact rs.keep b u e n
  | some w=>rw [add_some q] at e;cases e;exact (hW b _ q).1
 ·cases q:W b with
  | none=>rw [add_none q] at n;exact rs.grow b n
  | some w=>intro z;rw [(hW b _ q).1] at z;cases z
 ·obtain ⟨v,e1,r⟩:=rs.sl i s e
  refine ⟨v,e1,?_⟩
  cases s with
  | d x=>exact r
  | own xs=>
   obtain ⟨b,vs,rfl,z2,z3,z4,z5⟩:=r
   exact ⟨b,vs,rfl,z2,by rw [add_none (ho i xs b e e1)];exact z3,z4,z5⟩
  | bor xs=>exact r
theorem RS.wO (rs:RS (C.add W) p σ F H) {i:Nat} {xs:List D} (e:p[i]? = some (some (.own xs))) (e1:σ[i]? = some (some (.ref a))):W a=none/\∃vs,H a=some (.lst vs):=by
 obtain ⟨v,e2,b,vs,rfl,z2,z3,z4,z5⟩:=rs.sl i _ e
 rw [e1] at e2;cases e2
 exact ⟨(of_add z3).1,vs,z4⟩
theorem RS.wputO {o us:HO} (rs:RS (C.add W) p σ F H) (ok:WOk C W) (h:W a=some o) (hn:Hld us) :
  RS (C.add (upd W a us)) p σ F (upd H a us)/\WOk C (upd W a us):=by
 have rs0:=rs.un ok
 have fa:=rs.wF ok h
 have hin:∀b o,upd W a us b=some o->∃o',W b=some o':=fun b o e=>by
  by_cases hb:b=a
  ·subst hb;exact ⟨_,h⟩
  ·rw [upd_ne hb] at e;exact ⟨_,e⟩
 refine ⟨RS.ad ⟨fun b u e=>?_,rs0.ext,rs0.new,fun b u e n=>?_,fun b n e=>?_,rs0.len,fun i s e=>?_,rs0.apart,rs0.pin⟩ (fun b u e=>?_) (fun i xs b e e1=>?_),⟨fun b u e=>?_,fun b u e=>?_,fun b u e=>?_,fun b u e=>?_⟩⟩
 ·rw [upd_ne (fun z=>by rw [z,fa] at e;cases e)];exact rs0.sub b u e
 ·have hb:b≠a:=fun z=>by rw [z,ok.h0 a _ h] at e;cases e
  rw [upd_ne hb];exact rs0.keep b u e n
 ·by_cases hb:b=a
  ·subst hb;rw [upd_same] at e;cases e
  ·rw [upd_ne hb] at e;exact rs0.grow b n e
 ·obtain ⟨v,e1,r⟩:=rs.sl i s e
  obtain ⟨v',e1',r'⟩:=rs0.sl i s e
  rw [e1] at e1';cases e1'
  refine ⟨v,e1,?_⟩
  cases s with
  | d x=>exact r'
  | own xs=>
   obtain ⟨b,vs',rfl,z2,z3,z4,z5⟩:=r'
   have hb:b≠a:=fun z=>by have:=(rs.wO e e1).1;rw [z,h] at this;cases this
   exact ⟨b,vs',rfl,z2,z3,by rw [upd_ne hb];exact z4,z5⟩
  | bor xs=>
   obtain ⟨b,vs',rfl,z2,⟨q,hq,z3⟩,z4,z5⟩:=r'
   have hb:b≠a:=fun z=>ok.bs a _ h q hq (z3.trans z)
   exact ⟨b,vs',rfl,z2,⟨q,hq,z3⟩,by rw [upd_ne hb];exact z4,z5⟩
 ·by_cases hb:b=a
  ·subst hb;rw [upd_same] at e ⊢;exact ⟨e,fa⟩
  ·rw [upd_ne hb] at e ⊢;exact ⟨rs.wH ok e,rs.wF ok e⟩
 ·have:=(rs.wO e e1).1
  by_cases hb:b=a
  ·subst hb;rw [h] at this;cases this
  ·rw [upd_ne hb];exact this
 ·by_cases hb:b=a
  ·subst hb;rw [upd_same] at e;cases e;exact hn
  ·rw [upd_ne hb] at e;exact ok.lst b u e
 ·obtain ⟨o',e'⟩:=hin b u e;exact ok.h0 b o' e'
 ·obtain ⟨o',e'⟩:=hin b u e;exact ok.f0 b o' e'
 ·obtain ⟨o',e'⟩:=hin b u e;exact ok.bs b o' e'
theorem RS.wput {vs us:List V} (rs:RS (C.add W) p σ F H) (ok:WOk C W) (h:W a=some (.lst vs)) :
  RS (C.add (upd W a (.lst us))) p σ F (upd H a (.lst us))/\WOk C (upd W a (.lst us)):=rs.wputO ok h (.inl ⟨_,rfl⟩)
theorem RS.takeO {vs:HO} (rs:RS (C.add W) p σ F H) (ok:WOk C W) (h1:F a=none) (h2:(C.add W).H0 a=none) (h3:H a=some vs) (hn:Hld vs) (mi:Mine p σ a) :
  RS (C.add (upd W a vs)) p σ F H/\WOk C (upd W a vs):=by
 have rs0:=rs.un ok
 obtain ⟨w0,c0⟩:=of_add h2
 refine ⟨rs0.ad (fun b u e=>?_) (fun i xs b e e1=>?_),⟨fun b u e=>?_,fun b u e=>?_,fun b u e=>?_,fun b u e=>?_⟩⟩
 ·by_cases hb:b=a
  ·subst hb;rw [upd_same] at e;cases e;exact ⟨h3,h1⟩
  ·rw [upd_ne hb] at e;exact ⟨rs.wH ok e,rs.wF ok e⟩
 ·have:=(rs.wO e e1).1
  by_cases hb:b=a
  ·subst hb;exact absurd e1 (mi i _ e rfl)
  ·rw [upd_ne hb];exact this
 ·by_cases hb:b=a
  ·subst hb;rw [upd_same] at e;cases e;exact hn
  ·rw [upd_ne hb] at e;exact ok.lst b u e
 ·by_cases hb:b=a
  ·subst hb;exact c0
  ·rw [upd_ne hb] at e;exact ok.h0 b u e
 ·by_cases hb:b=a
  ·subst hb
   cases q:C.F0 b with
   | none=>rfl
   | some w=>rw [rs0.ext b w q] at h1;cases h1
  ·rw [upd_ne hb] at e;exact ok.f0 b u e
 ·by_cases hb:b=a
  ·subst hb
   intro q hq z
   obtain ⟨z1,xs,z2⟩:=rs0.pin q hq
   exact mi q.1 _ z2 rfl (by rw [z1,z])
  ·rw [upd_ne hb] at e;exact ok.bs b u e
theorem RS.take {vs:List V} (rs:RS (C.add W) p σ F H) (ok:WOk C W) (h1:F a=none) (h2:(C.add W).H0 a=none) (h3:H a=some (.lst vs)) (mi:Mine p σ a) :
  RS (C.add (upd W a (.lst vs))) p σ F H/\WOk C (upd W a (.lst vs)):=rs.takeO ok h1 h2 h3 (.inl ⟨_,rfl⟩) mi
end
structure VEnds where
 nx:Hp->PSt->Prop
 rt:Rt->Hp->PSt->Prop
 bk:Hp->PSt->Prop:=fun _ _=>False
 ct:Hp->PSt->Prop:=fun _ _=>False
abbrev TVQ:=VEnds->Hp->PSt->Prop
def VEnds.dn (C:Pc) (F0:Hp) (E:VEnds):Ends where
 nx:=fun σ H=>∃W p F,RS (C.add W) p σ F H/\WOk C W/\Same F0 F/\E.nx W p
 rt:=fun v H=>∃r W p σ F,RS (C.add W) p σ F H/\WOk C W/\Same F0 F/\RtR (C.add W) p σ F H r v/\E.rt r W p
 bk:=fun σ H=>∃W p F,RS (C.add W) p σ F H/\WOk C W/\Same F0 F/\E.bk W p
 ct:=fun σ H=>∃W p F,RS (C.add W) p σ F H/\WOk C W/\Same F0 F/\E.ct W p
theorem vdn_le {C:Pc} {F F1:Hp} {E:VEnds} (s:Same F F1):(E.dn C F1).Le (E.dn C F):=⟨fun _ _ zq=>by obtain ⟨W,p,G,a,k,b,c⟩:=zq;exact ⟨W,p,G,a,k,s.trans b,c⟩,fun _ _ zq=>by obtain ⟨r,W,p,σ,G,a,k,b,c⟩:=zq;exact ⟨r,W,p,σ,G,a,k,s.trans b,c⟩,fun _ _ zq=>by obtain ⟨W,p,G,a,k,b,c⟩:=zq;exact ⟨W,p,G,a,k,s.trans b,c⟩,fun _ _ zq=>by obtain ⟨W,p,G,a,k,b,c⟩:=zq;exact ⟨W,p,G,a,k,s.trans b,c⟩⟩
def UpV (C:Pc) (t:TVQ):TS:=fun De σ H=>∃W p F E,RS (C.add W) p σ F H/\WOk C W/\t E W p/\(E.dn C F).Le De
section
variable {X:Cx} {C:Pc} {a b c e:Expr} {pos:Pos} {K:PySem.W.Frag} {p:PSt} {σ:St} {F H:Hp} {st:Stmt} {rest:List Stmt} {t u:TVQ}
theorem VS.mk {t:TS} {t':TVQ} (h:PS X st t) (hi:∀W p σ F H E,RS (C.add W) p σ F H->WOk C W->t' E W p->t (E.dn C F) σ H):PS X st (UpV C t'):=fun pins s σ H De I zq=>by
 obtain ⟨W,p,F,E,rs,ok,ht,l⟩:=zq
 exact thn (h pins s σ H _ I (hi W p σ F H E rs ok ht)) fun _ _ q=>q.le l
theorem VSs.mk {sts:List Stmt} {t:TS} {t':TVQ} (h:PSs X sts t) (hi:∀W p σ F H E,RS (C.add W) p σ F H->WOk C W->t' E W p->t (E.dn C F) σ H):PSs X sts (UpV C t'):=fun pins s σ H De I zq=>by
 obtain ⟨W,p,F,E,rs,ok,ht,l⟩:=zq
 exact thn (h pins s σ H _ I (hi W p σ F H E rs ok ht)) fun _ _ q=>q.le l
def vLift (t:Hp->TSQ):TVQ:=fun E W p=>t W { nx:=E.nx W,rt:=fun r=>E.rt r W,bk:=E.bk W,ct:=E.ct W } p
theorem lift_le {W:Hp} {E:VEnds} (ok:WOk C W):(PEnds.dn (C.add W) F { nx:=E.nx W,rt:=fun r=>E.rt r W,bk:=E.bk W,ct:=E.ct W }).Le (E.dn C F):=
 ⟨fun _ _ zq=>by obtain ⟨p,G,a,b,c⟩:=zq;exact ⟨W,p,G,a,ok,b,c⟩,fun _ _ zq=>by obtain ⟨r,p,σ,G,a,b,c,d⟩:=zq;exact ⟨r,W,p,σ,G,a,ok,b,c,d⟩,fun _ _ zq=>by obtain ⟨p,G,a,b,c⟩:=zq;exact ⟨W,p,G,a,ok,b,c⟩,fun _ _ zq=>by obtain ⟨p,G,a,b,c⟩:=zq;exact ⟨W,p,G,a,ok,b,c⟩⟩
theorem v_lift {t:Hp->TSQ} (h:∀W,WOk C W->PS X st (UpS (C.add W) (t W))):PS X st (UpV C (vLift t)):=fun pins s σ H De I zq=>by
 obtain ⟨W,p,F,E,rs,ok,ht,l⟩:=zq
 exact h W ok pins s σ H De I ⟨p,F,_,rs,ht,(lift_le ok).trans l⟩
def vNext:TVQ:=fun E W p=>E.nx W p
def vSeq (t u:TVQ):TVQ:=fun E W p=>t { E with nx:=u E } W p
theorem v_nil:PSs X [] (UpV C vNext):=VSs.mk pss_nil fun W p σ F H E rs ok q=>⟨W,p,F,rs,ok,.refl _,q⟩
theorem v_cons (h1:PS X st (UpV C t)) (h2:PSs X rest (UpV C u)):PSs X (st::rest) (UpV C (vSeq t u)):=
 VSs.mk (pss_cons h1 h2) fun W p σ F H E rs ok q=>⟨W,p,F,_,rs,ok,q,⟨fun σ1 H1 zq=>by obtain ⟨W1,p1,F1,rs1,ok1,s1,q1⟩:=zq;exact ⟨W1,p1,F1,E,rs1,ok1,q1,vdn_le s1⟩,fun _ _ h=>h,fun _ _ h=>h,fun _ _ h=>h⟩⟩
theorem v_one (h1:PS X st (UpV C t)):PSs X [st] (UpV C t):=pss_one h1
def VEnds.of (E:PEnds):VEnds:={ nx:=fun _=>E.nx,rt:=fun r _=>E.rt r,bk:=fun _=>E.bk,ct:=fun _=>E.ct }
theorem RtR.un {W:Hp} {r:Rt} {v:V} (h:RtR (C.add W) p σ F H r v):RtR C p σ F H r v:=by
 cases r with
 | rd x=>exact h
 | ro xs=>obtain ⟨y,vs,z1,z2,z3,z4,z5,z6⟩:=h;exact ⟨y,vs,z1,z2,(of_add z3).2,z4,z5,z6⟩
theorem of_le {E:PEnds}:((VEnds.of E).dn C F).Le (E.dn C F):=⟨fun _ _ zq=>by obtain ⟨W,p,G,a,k,b,c⟩:=zq;exact ⟨p,G,a.un k,b,c⟩,fun _ _ zq=>by obtain ⟨r,W,p,σ,G,a,k,b,c,d⟩:=zq;exact ⟨r,p,σ,G,a.un k,b,c.un,d⟩,fun _ _ zq=>by obtain ⟨W,p,G,a,k,b,c⟩:=zq;exact ⟨p,G,a.un k,b,c⟩,fun _ _ zq=>by obtain ⟨W,p,G,a,k,b,c⟩:=zq;exact ⟨p,G,a.un k,b,c⟩⟩
def qOfV (t:TVQ):TSQ:=fun E p=>t (VEnds.of E) Hp0 p
theorem ss_ofV {sts:List Stmt} (h:PSs X sts (UpV C t)):PSs X sts (UpS C (qOfV t)):=fun pins s σ H De I zq=>by
 obtain ⟨p,F,E,rs,ht,l⟩:=zq
 exact h pins s σ H De I ⟨Hp0,p,F,_,rs,.nil C,ht,of_le.trans l⟩
def UpEW (C:Pc) (t:Hp->TQ):TE:=fun σ H Q=>∃W,WOk C W/\Up (C.add W) (t W) σ H Q
def UpTW (C:Pc) (t:Hp->TTQ):TT:=fun σ H Q=>∃W,WOk C W/\UpT (C.add W) (t W) σ H Q
def UpAW (C:Pc) (t:Hp->TAQ):TA:=fun σ H Q=>∃W,WOk C W/\UpA (C.add W) (t W) σ H Q
def UpIW (C:Pc) (t:Hp->TIQ):TI:=fun σ H Q=>∃W,WOk C W/\UpI (C.add W) (t W) σ H Q
def UpGW (C:Pc) (t:Hp->TGQ):TG:=fun v σ H Q=>∃W,WOk C W/\UpG (C.add W) (t W) v σ H Q
theorem pe_w {t:Hp->TQ} (h:∀W,WOk C W->PE X e (Up (C.add W) (t W))):PE X e (UpEW C t):=fun pins s σ H Q I zq=>by obtain ⟨W,ok,ht⟩:=zq;exact h W ok pins s σ H Q I ht
theorem pt_w {t:Hp->TTQ} (h:∀W,WOk C W->PT X e (UpT (C.add W) (t W))):PT X e (UpTW C t):=fun pins s σ H Q I zq=>by obtain ⟨W,ok,ht⟩:=zq;exact h W ok pins s σ H Q I ht
theorem pa_w {es:List Expr} {t:Hp->TAQ} (h:∀W,WOk C W->PA X es (UpA (C.add W) (t W))):PA X es (UpAW C t):=fun pos pins s σ H Q I zq=>by obtain ⟨W,ok,ht⟩:=zq;exact h W ok pos pins s σ H Q I ht
theorem pi_w {tg it:Expr} {t:Hp->TIQ} (h:∀W,WOk C W->PI X tg it (UpI (C.add W) (t W))):PI X tg it (UpIW C t):=fun pins s σ H Q I zq=>by obtain ⟨W,ok,ht⟩:=zq;exact h W ok pins s σ H Q I ht
theorem pg_w {tg:Expr} {t:Hp->TGQ} (h:∀W,WOk C W->PG X tg (UpG (C.add W) (t W))):PG X tg (UpGW C t):=fun pins s σ H v u Q I r zq=>by obtain ⟨W,ok,ht⟩:=zq;exact h W ok pins s σ H v u Q I r ht
def vFor (ti:Hp->TIQ) (g:Hp->TGQ) (tb:TVQ):TVQ:=fun E W p=>ti W p fun n item p1=>∃I:Nat->Hp->PSt->Prop,I 0 W p1/\(∀i W2 p2,i<n->I i W2 p2->g W2 (item i) p2 fun p3=>tb { E with nx:=I (i+1),ct:=I (i+1),bk:=E.nx } W2 p3)/\∀W2 p2,I n W2 p2->E.nx W2 p2
theorem v_for {iter tg:Expr} {body:List Stmt} {ti:Hp->TIQ} {g:Hp->TGQ} {tb:TVQ} (hp:PassesOwn (model X.prog X.w) X.A X.env X.xe) (hc:X.calm=true) (hi:∀W,WOk C W->PI X tg iter (UpI (C.add W) (ti W))) (hg:∀W,WOk C W->PG X tg (UpG (C.add W) (g W))) (hb:PSs X body (UpV C tb))
  (hs:∀x,foldedSetIterable iter X.env x=pure x:=by intro _;rfl):PS X (.For tg iter body [] pos) (UpV C (vFor ti g tb)):=
 VS.mk (ps_for hp hc (pi_w hi) (pg_w hg) hb hs) fun W p σ F H E rs ok ht=>⟨W,ok,p,F,_,rs,ht,fun J H1 zq=>by
  obtain ⟨n,item,p1,F1,rs1,s1,sh1,jq,I,i0,istep,iend⟩:=zq
  refine ⟨fun i m σ H=>m=n - i/\i<=n/\∃W p F,RS (C.add W) p σ F H/\WOk C W/\Same F1 F/\I i W p,⟨n,by simp,Nat.zero_le _,W,p1,F1,rs1,ok,.refl _,i0⟩,?_⟩
  rintro i m σ2 H2 ⟨rfl,hi,W2,p2,F2,rs2,ok2,s2,i2⟩
  by_cases hlt:i<n
  ·refine .inr ⟨jq.go i F2 H2 rs2.sub s2 hlt,fun σ' H'=>∃W p F,RS (C.add W) p σ' F H'/\WOk C W/\Same F1 F/\I (i+1) W p,fun σ' H' h=>⟨n - (i+1),by omega,rfl,hlt,h⟩,fun x H' y=>?_⟩
   obtain ⟨F3,rs3,s3,r3⟩:=JQ.out (C:=C.add W2) jq rs2 s2 hlt y
   refine ⟨W2,ok2,p2,F3,item i,_,rs3,r3,istep i W2 p2 hlt i2,fun σ4 H4 ⟨p4,F4,rs4,s4,q4⟩=>⟨W2,p4,F4,_,rs4,ok2,q4,?_⟩⟩
   have s14:Same F1 F4:=s2.trans (s3.trans s4)
   exact ⟨fun _ _ zq=>by obtain ⟨W5,p5,F5,a,k,b,c⟩:=zq;exact ⟨W5,p5,F5,a,k,s14.trans b,c⟩,fun _ _ zq=>by obtain ⟨r,W5,p5,σ5,F5,a,k,b,c⟩:=zq;exact ⟨r,W5,p5,σ5,F5,a,k,s1.trans (s14.trans b),c⟩,fun _ _ zq=>by obtain ⟨W5,p5,F5,a,k,b,c⟩:=zq;exact ⟨W5,p5,F5,a,k,s1.trans (s14.trans b),c⟩,fun _ _ zq=>by obtain ⟨W5,p5,F5,a,k,b,c⟩:=zq;exact ⟨W5,p5,F5,a,k,s14.trans b,c⟩⟩
  ·have e:i=n:=by omega
   subst e
   exact .inl ⟨jq.stop F2 H2 rs2.sub s2,W2,p2,F2,rs2,ok2,s1.trans s2,iend W2 p2 i2⟩⟩
def vWhile (c:Hp->TTQ) (tb:TVQ):TVQ:=fun E W p=>∃(I:Hp->PSt->Prop) (μ:PSt->Nat),I W p/\∀W1 p1,I W1 p1->c W1 p1 fun b p2=>if b=true then tb { E with nx:=fun W q=>I W q/\μ q<μ p1,ct:=fun W q=>I W q/\μ q<μ p1,bk:=E.nx } W1 p2 else E.nx W1 p2
theorem v_while {c:Expr} {body:List Stmt} {tc:Hp->TTQ} {tb:TVQ} (hp:PassesOwn (model X.prog X.w) X.A X.env X.xe) (hc:∀W,WOk C W->PT X c (UpT (C.add W) (tc W))) (hb:PSs X body (UpV C tb)):PS X (.While c body [] pos) (UpV C (vWhile tc tb)):=
 VS.mk (ps_while hp (pt_w hc) hb) fun W p σ F H E rs ok zq=>by
  obtain ⟨I,μ,i0,step⟩:=zq
  refine ⟨fun m σ1 H1=>∃W1 p1 F1,RS (C.add W1) p1 σ1 F1 H1/\WOk C W1/\Same F F1/\I W1 p1/\m=μ p1,⟨_,W,p,F,rs,ok,.refl _,i0,rfl⟩,?_⟩
  rintro m σ1 H1 ⟨W1,p1,F1,rs1,ok1,s1,i1,rfl⟩
  refine ⟨W1,ok1,upT1 rs1 (step W1 p1 i1) fun k p2 F2 H2 rs2 s2 sh q=>?_⟩
  refine ite_imp (fun q=>?_) (fun q=>?_) q
  ·refine ⟨fun σ' H'=>∃W' p' F',RS (C.add W') p' σ' F' H'/\WOk C W'/\Same F F'/\I W' p'/\μ p'<μ p1,fun σ' H' zq=>by obtain ⟨W',p',F',z1,z0,z2,z3,z4⟩:=zq;exact ⟨_,z4,W',p',F',z1,z0,z2,z3,rfl⟩,W1,p2,F2,_,rs2,ok1,q,?_⟩
   have s12:=s1.trans s2
   exact ⟨fun _ _ zq=>by obtain ⟨W5,p5,F5,a,k,b,c,d⟩:=zq;exact ⟨W5,p5,F5,a,k,s12.trans b,c,d⟩,fun _ _ zq=>by obtain ⟨r,W5,p5,σ5,F5,a,k,b,c⟩:=zq;exact ⟨r,W5,p5,σ5,F5,a,k,s12.trans b,c⟩,fun _ _ zq=>by obtain ⟨W5,p5,F5,a,k,b,c⟩:=zq;exact ⟨W5,p5,F5,a,k,s12.trans b,c⟩,fun _ _ zq=>by obtain ⟨W5,p5,F5,a,k,b,c,d⟩:=zq;exact ⟨W5,p5,F5,a,k,s12.trans b,c,d⟩⟩
  ·exact ⟨W1,p2,F2,rs2,ok1,s1.trans s2,q⟩
end
structure PostV (K:PySem.W.Frag) (F H W:Hp) (r:D) (v:V) (W' F' H':Hp):Prop where
 ext:Same F F'
 sub:Same F' H'
 new:∀a o,F' a=some o->F a=some o\/H a=none\/W a≠none\/∃xs,o=.tup xs
 keep:∀a o,H a=some o->W a=none->H' a=some o
 wH:∀a o,W' a=some o->H' a=some o/\F' a=none/\Hld o/\(W a≠none\/H a=none)
 res:Rep K F' r v
abbrev VSp:=Hp->List D->(D->Hp->Prop)->Prop
def spV (K:PySem.W.Frag) (S:VSp):Sp:=fun vs H Q _=>∃W ds F R,Same F H/\(∀a o,W a=some o->H a=some o/\F a=none/\Hld o)/\RepL K F ds vs/\S W ds R/\∀r v W' F' H',PostV K F H W r v W' F' H'->R r W'->Q v H'
section
variable {X:Cx} {C:Pc} {W:Hp} {p:PSt} {σ:St} {F H:Hp} {a:Addr} {o:HO}
theorem RS.callV {r:D} {v:V} {W' F' H':Hp} (rs:RS (C.add W) p σ F H) (ok:WOk C W) (po:PostV C.K F H W r v W' F' H'):RS (C.add W') p σ F' H'/\WOk C W':=by
 have rs0:=rs.un ok
 have fr:∀b vs,W b=none->F b=none->H b=some (.lst vs)->F' b=none/\H' b=some (.lst vs):=fun b vs h1 h2 h3=>by
  have hk:=po.keep b _ h3 h1
  refine ⟨?_,hk⟩
  cases q:F' b with
  | none=>rfl
  | some u=>
   rcases po.new b u q with z|z|z|⟨xs,z⟩
   ·rw [h2] at z;cases z
   ·rw [h3] at z;cases z
   ·exact absurd h1 z
   ·have:=po.sub b u q
    rw [hk,z] at this;cases this
 have bW:∀q∈C.bs,W q.2=none:=fun q hq=>by
  cases e:W q.2 with
  | none=>rfl
  | some u=>exact absurd rfl (ok.bs _ u e q hq)
 have nH:∀b,H b=none->C.H0 b=none:=fun b e=>by
  cases q:C.H0 b with
  | none=>rfl
  | some u=>exact absurd e (rs0.grow b (by rw [q];intro z;cases z))
 have h0':∀b u,W' b=some u->C.H0 b=none:=fun b u e=>by
  rcases (po.wH b u e).2.2.2 with z|z
  ·cases q:W b with
   | none=>exact absurd q z
   | some w=>exact ok.h0 b w q
  ·exact nH b z
 refine ⟨RS.ad ⟨po.sub,rs0.ext.trans po.ext,fun b u e=>?_,fun b u e n=>po.keep b u (rs0.keep b u e n) (ok.non e),fun b n z=>?_,rs0.len,fun i s e=>?_,rs0.apart,rs0.pin⟩ (fun b u e=>⟨(po.wH b u e).1,(po.wH b u e).2.1⟩) (fun i xs b e e1=>?_),⟨fun b u e=>(po.wH b u e).2.2.1,h0',fun b u e=>?_,fun b u e q hq z=>?_⟩⟩
 ·rcases po.new b u e with z|z|z|z
  ·exact rs0.new b u z
  ·exact .inr (.inl (nH b z))
  ·cases q:W b with
   | none=>exact absurd q z
   | some w=>exact .inr (.inl (ok.h0 b w q))
  ·exact .inr (.inr z)
 ·cases q:C.H0 b with
  | none=>exact n q
  | some u=>
   cases q2:H b with
   | none=>exact rs0.grow b n q2
   | some u2=>rw [po.keep b u2 q2 (ok.non q)] at z;cases z
 ·obtain ⟨w,e1,r⟩:=rs0.sl i s e
  refine ⟨w,e1,?_⟩
  cases s with
  | d x=>exact Rep.mono po.ext r
  | own xs=>
   obtain ⟨b,vs,rfl,z2,z3,z4,z5⟩:=r
   obtain ⟨y1,y2⟩:=fr b vs (rs.wO e e1).1 z2 z4
   exact ⟨b,vs,rfl,y1,z3,y2,z5.mono po.ext⟩
  | bor xs=>
   obtain ⟨b,vs,rfl,z2,⟨q,hq,z3⟩,z4,z5⟩:=r
   obtain ⟨y1,y2⟩:=fr b vs (z3▸bW q hq) z2 z4
   exact ⟨b,vs,rfl,y1,⟨q,hq,z3⟩,y2,z5.mono po.ext⟩
 ·obtain ⟨z1,vs,z2⟩:=rs.wO e e1
  cases q:W' b with
  | none=>rfl
  | some u=>
   rcases (po.wH b u q).2.2.2 with z|z
   ·exact absurd z1 z
   ·rw [z2] at z;cases z
 ·cases q:C.F0 b with
  | none=>rfl
  | some w=>
   have:=(rs0.ext.trans po.ext) b w q
   rw [(po.wH b u e).2.1] at this;cases this
 ·rcases (po.wH b u e).2.2.2 with y|y
  ·exact y (z▸bW q hq)
  ·obtain ⟨z1,xs,z2⟩:=rs0.pin q hq
   obtain ⟨w,e1,c,vs,e2,_,_,z4,_⟩:=rs0.sl _ _ z2
   rw [z1] at e1;cases e1;cases e2
   rw [z,y] at z4;cases z4
end
abbrev TVE:=Hp->PSt->(D->Hp->PSt->Prop)->Prop
def UpEV (C:Pc) (t:TVE):TE:=fun σ H Q=>∃W p F R,RS (C.add W) p σ F H/\WOk C W/\t W p R/\∀d v W1 p1 F1 H1,RS (C.add W1) p1 σ F1 H1->WOk C W1->Same F F1->Rep C.K F1 d v->R d W1 p1->Q v H1
section
variable {X:Cx} {C:Pc} {a b c e o k:Expr} {es:List Expr} {pos:Pos} {K:PySem.W.Frag} {p:PSt} {σ:St} {F H:Hp} {st:Stmt} {rest:List Stmt} {t u:TVQ}
def vCall (S:VSp) (t:Hp->TAQ):TVE:=fun W p Q=>t W p fun es p1=>∃ds,fzs es=some ds/\S W ds fun r W'=>Q r W' p1
theorem v_call {x:Str} {st:Stmt} {ps:List Str} {k:Nat} {S:VSp} {p0:Pos} {tas:Hp->TAQ} (hK:X.K=C.K) (D:DefAt X.K X.mg x st ps) (G:FnOk X.prog X.w X.K X.mg X.base CX0 k D.f D.fd ps (spV X.K S)) (hr:Room k X.A) (ha:∀W,WOk C W->PA X (e::es) (UpA (C.add W) (tas W)))
  (hg:Gl X x:=by rfl) (hdb:(x == ("__debug__":Str))=false:=by decide) (he:starEach (e::es) X.env=(false,eval e X.env)::starEach es X.env:=by rfl) (hpl:(backTo pos (starEach es X.env)).any (·.1)=false:=by rfl) :
  PE X (.Call (.Name x p0) (e::es) [] pos) (UpEV C (vCall S tas)):=fun pins s σ H Q I zq=>by
 obtain ⟨W,p,F,R,rs,ok,ht,hq⟩:=zq
 refine pe_callD D G hr (pa_w ha) hg hdb he hpl pins s σ H Q I ?_
 refine ⟨W,ok,upA1 rs ht fun es1 p1 vs1 F1 H1 rs1 s1 sh er1 ⟨ds,h1,q⟩=>?_⟩
 rw [List.append_nil,hK]
 refine ⟨W,ds,F1,_,rs1.sub,fun b u z=>⟨rs1.wH ok z,rs1.wF ok z,ok.lst b u z⟩,fzs_ok (C:=C.add W) er1 h1,q,fun r v W' F' H' po hR=>?_⟩
 obtain ⟨rs2,ok2⟩:=RS.callV rs1 ok po
 exact hq r v W' p1 F' H' rs2 ok2 (s1.trans po.ext) po.res hR
def vSet (i:Nat) (t:TVE):TVQ:=fun E W p=>t W p fun d W1 p1=>nbr p1 i=true/\E.nx W1 (p1.set i (some (.d d)))
theorem v_set {i:Nat} {x:Str} {t:TVE} {pos':Pos} (hN:X.N.Nodup) (hi:X.N[i]? = some x) (hx:Loc X.env.scope x) (he:PE X e (UpEV C t)) (hs:swapsWith e (some (.Name x pos')) pos.line X.env=pure false:=by rfl) (hf:X.fn x=true\/X.env.scope.names.lookup x=some .local:=by first|exact .inl rfl|exact .inr rfl|assumption) :
  PS X (.Assign [.Name x pos'] e pos) (UpV C (vSet i t)):=
 VS.mk (ps_set hN hi hx he hs hf) fun W p σ F H E rs ok ht=>⟨W,p,F,_,rs,ok,ht,fun d v W1 p1 F1 H1 rs1 ok1 s1 r1 zq=>by obtain ⟨hn,q⟩:=zq;exact ⟨W1,_,F1,rs1.setD hn r1,ok1,s1,q⟩⟩
def vDrop (t:TVE):TVQ:=fun E W p=>t W p fun _ W1 p1=>E.nx W1 p1
theorem v_expr {t:TVE} (he:PE X e (UpEV C t)) (hs:swapsWith e none pos.line X.env=pure false:=by rfl):PS X (.Expr e pos) (UpV C (vDrop t)):=
 VS.mk (ps_expr he hs) fun W p σ F H E rs ok ht=>⟨W,p,F,_,rs,ok,ht,fun d v W1 p1 F1 H1 rs1 ok1 s1 r1 q=>⟨W1,p1,F1,rs1,ok1,s1,q⟩⟩
def vd:V->D
 | .int n=>.int n
 | v=>.atom v
theorem vd_ok (v:V) (F:Hp):Rep K F (vd v) v:=by cases v<;>first|exact .int _|exact .atom _
def qIxW (W:Hp) (ta tb:TQ):TQ:=fun p Q=>ta p fun e1 p1=>tb p1 fun e2 p2=>∃x vs k v,lk p2 e1=.atom (.ref x)/\W x=some (.lst vs)/\lk p2 e2=.int k/\atI vs k=some v/\Q (.fz (vd v)) p2
theorem q_ixW {W:Hp} {ta tb:TQ} (ok:WOk C W) (hK:X.K=C.K) (ha:PE X a (Up (C.add W) ta)) (hb:PE X b (Up (C.add W) tb)) (hs:PlainIx b):PE X (.Subscript a b pos) (Up (C.add W) (qIxW W ta tb)):=
 QE.mk (pe_ix (ix_listK hK) ha hb hs) fun p σ F H R rs ht=>up2 rs ht fun e1 e2 p1 v1 v2 F1 H1 rs1 s1 sh er1 er2 zq=>by
  obtain ⟨x,vs,k,v,h1,h2,h3,h4,q⟩:=zq
  rw [ev_int er2 h3,ev_atom er1 h1]
  exact ⟨x,vs,k,v,rfl,rfl,.of (rs1.wH ok h2),h4,fin_ev rs1 s1 sh (vd_ok v F1) q⟩
theorem get_listP:PGet X (fun o i H Q=>∃p xs k v,o=.ref p/\i=.int k/\H p=some (.lst xs)/\0<=k/\xs[k.toNat]? = some v/\Q v H):=by
 intro pins s σ H o i ov iv Q I ro ri h
 obtain ⟨p,xs,k,v,rfl,rfl,hp,h0,hv,q⟩:=h
 cases ro
 obtain ⟨t,rfl⟩:=ri
 obtain ⟨its,r,pl,hz⟩:=I.list (SqL.of hp)
 obtain ⟨w,ew,rw'⟩:=r.get hv
 have hl:=r.length
 have hn:=line63
 have hk:k.toNat<xs.length:=(List.getElem?_eq_some_iff.mp hv).1
 exact wpAny_getItem_list pl.isList h0 (by omega) (by simpa using ew) ⟨v,H,I,rw',q⟩
def vSetI (te to tk:Hp->TQ):TVQ:=fun E W p=>te W p fun ev p1=>to W p1 fun eo p2=>tk W p2 fun ek p3=>∃x vs n k j,lk p3 ev=.int n/\lk p3 eo=.atom (.ref x)/\W x=some (.lst vs)/\lk p3 ek=.int k/\ixN vs.length k=some j/\E.nx (upd W x (.lst (vs.set j (.int n)))) p3
theorem v_setI {te to tk : Hp → TQ} {pt : Pos} (he : ∀ W, WOk C W → PE X e (Up (C.add W) (te W))) (ho : ∀ W, WOk C W → PE X o (Up (C.add W) (to W))) (hk : ∀ W, WOk C W → PE X k (Up (C.add W) (tk W)))
    (ha : ∀ v, assign (.Subscript o k pt) X.env v = (do
      let ov ← holding [v] (eval o X.env)
      let iv ← holding [v, ov] (eval k X.env)
      standAt pt
      holding [v, ov, iv] (setItem ov iv v)
      release [v, ov, iv] []) := by intro _; rfl)
    (hs : swapsWithSole [.Subscript o k pt] e pos.line X.env = pure false := by rfl) (hw : swappedStores [.Subscript o k pt] e X.env = pure none := by rfl)
    (h1 : (assignEach [.Subscript o k pt] X.env).map (·.2) = [assign (.Subscript o k pt) X.env] := by rfl) :
    PS X (.Assign [.Subscript o k pt] e pos) (UpV C (vSetI te to tk)) :=
  VS.mk (ps_asg (pe_w he) (pg_sub (pe_w ho) (pe_w hk) set_list ha) hs hw h1) fun W p σ F H E rs ok ht => ⟨W, ok, up1 rs ht fun e1 p1 v1 F1 H1 rs1 s1 sh1 er1 ht =>
    ⟨W, ok, up1 rs1 ht fun e2 p2 v2 F2 H2 rs2 s2 sh2 er2 ht => ⟨W, ok, up1 rs2 ht fun e3 p3 v3 F3 H3 rs3 s3 sh3 er3 zq=>by
      obtain ⟨x, vs, n, k, j, g1, g2, g3, g4, g5, q⟩:=zq
      rw [ev_int er3 g4, ev_atom (er2.mono s3 sh3) g2, ev_int ((er1.mono s2 sh2).mono s3 sh3) g1]
      obtain ⟨rs4, ok4⟩ := rs3.wput (us := vs.set j (.int n)) ok g3
      exact ⟨x, vs, k, j, rfl, rfl, rs3.wH ok g3, g5, _, p3, F3, rs4, ok4, s1.trans (s2.trans s3), q⟩⟩⟩⟩
def vAugI (g:Int->Int->Int) (to tk te:Hp->TQ):TVQ:=fun E W p=>to W p fun eo p1=>tk W p1 fun ek p2=>∃x vs k n,lk p2 eo=.atom (.ref x)/\W x=some (.lst vs)/\lk p2 ek=.int k/\0<=k/\vs[k.toNat]? = some (.int n)/\te W p2 fun ev p3=>∃m,lk p3 ev=.int m/\E.nx (upd W x (.lst (vs.set k.toNat (.int (g n m))))) p3
theorem ixN_nat {n:Nat} {k:Int} (h0:0<=k) (h:k.toNat<n):ixN n k=some k.toNat:=by
 unfold ixN
 rw [if_pos h0,if_pos (by omega)]
theorem v_augI {g : Int → Int → Int} {op : Operator} {to tk te : Hp → TQ} {tpos : Pos} (hop : PIp X op (ipI g)) (ho : ∀ W, WOk C W → PE X o (Up (C.add W) (to W))) (hk : ∀ W, WOk C W → PE X k (Up (C.add W) (tk W))) (he : ∀ W, WOk C W → PE X e (Up (C.add W) (te W)))
    (ha : ∀ ov iv new, augStore k ov iv new = (do holding [new, ov, iv] (setItem ov iv new); release [new, ov, iv] []; pure .next) := by intros; rfl) :
    PS X (.AugAssign (.Subscript o k tpos) op e pos) (UpV C (vAugI g to tk te)) :=
  VS.mk (ps_augS (pe_w ho) (pe_w hk) get_listP (pe_w he) hop set_list ha) fun W p σ F H E rs ok ht => ⟨W, ok, up1 rs ht fun e1 p1 v1 F1 H1 rs1 s1 sh1 er1 ht =>
    ⟨W, ok, up1 rs1 ht fun e2 p2 v2 F2 H2 rs2 s2 sh2 er2 zq=>by
      obtain ⟨x, vs, k, n, g1, g2, g3, g4, g5, ht⟩:=zq
      rw [ev_int er2 g3, ev_atom (er1.mono s2 sh2) g1]
      refine ⟨x, vs, k, .int n, rfl, rfl, rs2.wH ok g2, g4, g5, W, ok, up1 rs2 ht fun e3 p3 v3 F3 H3 rs3 s3 sh3 er3 ⟨m, g6, q⟩ => ?_⟩
      rw [ev_int er3 g6]
      obtain ⟨rs4, ok4⟩ := rs3.wput (us := vs.set k.toNat (.int (g n m))) ok g2
      exact ⟨n, m, rfl, rfl, x, vs, k, k.toNat, rfl, rfl, rs3.wH ok g2, ixN_nat g4 (List.getElem?_eq_some_iff.mp g5).1, _, p3, F3, rs4, ok4, s1.trans (s2.trans s3), q⟩⟩⟩
end
section
variable {P:Program} {w:World} {K:PySem.W.Frag} {mg:Str->Option Value} {base:Heap}
theorem Fun.okV {x qual:Str} {st:Stmt} {f:Addr} {fd:FuncData} {N ps:List Str} {k:Nat} {S:VSp} (Fn:Fun K x qual st f fd) (Sc:FnScope N ps (defScope st)) (len:∀W ds R,S W ds R->ds.length=ps.length)
  (hbody:∀(cdv:Value) (A:Around) (outer:List Env) (s:Shared) (H:Hp) (E:XK) (C:Pc) (W:Hp) (ds:List D) (R:D->Hp->Prop),K=C.K->Room k (A.deeper (envOfC qual (defScope st) s.heap.objs.size f cdv))->S W ds R->
   ∃t,PSs (cxOf CX0 P w K mg base N qual (defScope st) f cdv A outer s H E).nox (defBody st) (UpV C t)/\t { nx:=fun W' _=>R .non W',rt:=fun r W' _=>∃d,r=.rd d/\R d W' } W (startP N (ds.map Sl.d))):FnOk P w K mg base CX0 (k+1) f fd ps (spV K S):=by
 refine Fn.ok Sc (fun vs H Q E h=>?_) (fun cdv A outer s H vs Q E hr h=>?_)
 ·obtain ⟨W,ds,F,R,h1,h2,h3,h4,h5⟩:=h
  rw [<-h3.length];exact len W ds R h4
 obtain ⟨W,ds,F,R,sFH,hW,rl,hS,hq⟩:=h
 let C:Pc:=⟨K,F,fun a=>match W a with|some _=>none|none=>H a,[]⟩
 have hC:∀a,C.H0 a=(match W a with|some _=>none|none=>H a):=fun a=>rfl
 have hb:=hbody cdv A outer s H E C W ds R rfl hr hS
 obtain ⟨t,ht,tq⟩:=hb
 have ok:WOk C W:=⟨fun a o e=>(hW a o e).2.2,fun a o e=>by rw [hC,e],fun a o e=>(hW a o e).2.1,fun a o e q hq=>nomatch hq⟩
 have h0:∀a,(C.add W).H0 a=H a:=fun a=>by
  cases e:W a with
  | none=>rw [add_none e,hC,e]
  | some o=>rw [add_some e,(hW a o e).1]
 have getP:∀(i:Nat) (s:Sl),(startP N (ds.map Sl.d))[i]? = some (some s)->∃d,s=.d d/\ds[i]? = some d:=fun i s h=>by
  unfold startP at h
  by_cases hi:i<ds.length
  ·rw [List.getElem?_append_left (by simpa using hi)] at h
   rw [List.getElem?_map,List.getElem?_map] at h
   cases e:ds[i]? with
   | none=>rw [e] at h;cases h
   | some d=>rw [e] at h;cases h;exact ⟨d,rfl,rfl⟩
  ·rw [List.getElem?_append_right (by simpa using Nat.le_of_not_lt hi),List.getElem?_replicate] at h
   split at h<;>cases h
 have getV:∀(i:Nat) (v:V),vs[i]? = some v->(start N vs)[i]? = some (some v):=fun i v h=>by
  unfold start
  have hi:=(List.getElem?_eq_some_iff.mp h).1
  rw [List.getElem?_append_left (by simpa using hi)]
  simpa using h
 have rs:RS (C.add W) (startP N (ds.map Sl.d)) (start N vs) F H:=by
  refine ⟨sFH,.refl _,fun a o h=>.inl h,fun a o h _=>by rw [h0] at h;exact h,fun a h=>by rw [h0] at h;exact h,?_,fun i s h=>?_,fun i j s s' a hij e1 m1 e2 m2 x1 x2=>?_,fun q hq=>nomatch hq⟩
  ·unfold startP start
   rw [List.length_append,List.length_append,List.length_map,List.length_map,List.length_map,List.length_replicate,List.length_replicate,rl.length]
  ·obtain ⟨d,rfl,h1⟩:=getP i s h
   obtain ⟨v,h2,h3⟩:=rl.get h1
   exact ⟨v,getV i v h2,h3⟩
  ·obtain ⟨d,rfl,_⟩:=getP i s e1
   cases m1
 have fin:∀(d:D) (W1:Hp) (p1:PSt) (σ1:St) (v:V) (F1 H1:Hp),RS (C.add W1) p1 σ1 F1 H1->WOk C W1->Rep K F1 d v->R d W1->Q v H1:=fun d W1 p1 σ1 v F1 H1 rs1 ok1 rr q=>by
  have rs2:=rs1.un ok1
  refine hq d v W1 F1 H1 ⟨rs2.ext,rs2.sub,fun a o e=>?_,fun a o e n=>rs2.keep a o (by rw [hC,n];exact e) (fun q hq=>nomatch hq),fun a o e=>⟨rs1.wH ok1 e,rs1.wF ok1 e,ok1.lst a o e,?_⟩,rr⟩ q
  ·cases e2:W a with
   | some u=>exact .inr (.inr (.inl (by intro z;cases z)))
   | none=>
    rcases rs1.new a o e with z|z|z
    ·exact .inl z
    ·obtain ⟨z1,z2⟩:=of_add z
     rw [hC,e2] at z2
     exact .inr (.inl z2)
    ·exact .inr (.inr (.inr z))
  ·have:=ok1.h0 a o e
   rw [hC] at this
   cases e2:W a with
   | none=>rw [e2] at this;exact .inr this
   | some u=>exact .inl (by intro z;cases z)
 refine ⟨_,ht,W,startP N (ds.map Sl.d),F,_,rs,ok,tq,⟨fun σ1 H1 ⟨W1,p1,F1,rs1,ok1,s1,q⟩=>?_,fun v H1 ⟨r,W1,p1,σ1,F1,rs1,ok1,s1,rr,d,hr,q⟩=>?_,fun _ _ ⟨_,_,_,_,_,_,z⟩=>z.elim,fun _ _ ⟨_,_,_,_,_,_,z⟩=>z.elim⟩⟩
 ·exact fin .non W1 p1 σ1 .non F1 H1 rs1 ok1 .non q
 ·subst hr
  exact fin d W1 p1 σ1 v F1 H1 rs1 ok1 rr q
end
structure Rws (W:Hp) (bs:List Addr) (ms:List (List Int)):Prop where
 len:bs.length=ms.length
 nd:bs.Nodup
 at_:∀(i:Nat) (b:Addr) (ns:List Int),bs[i]? = some b->ms[i]? = some ns->W b=some (.lst (ns.map V.int))
def Mat (W:Hp) (a:Addr) (ms:List (List Int)):Prop:=∃bs,W a=some (.lst (bs.map V.ref))/\a ∉ bs/\Rws W bs ms
def HpIn (W W1:Hp):Prop:=∀b o,W b=some o->W1 b=some o
def UpNkW (C:Pc) (k:Nat) (t:TN):TE:=fun σ H Q=>∃W,WOk C W/\UpN ((C.add W).sh k) t σ H Q
def UpTkW (C:Pc) (k:Nat) (t:TTQ):TT:=fun σ H Q=>∃W,WOk C W/\UpT ((C.add W).sh k) t σ H Q
def UpGkW (C:Pc) (k:Nat) (g:TGQ):TG:=fun v σ H Q=>∃W,WOk C W/\UpGk ((C.add W).sh k) k g v σ H Q
def vComp (k:Nat) (ti:Hp->TIQ) (g:TGQ) (tt:TTQ) (te:TN):Hp->PSt->(Addr->Hp->PSt->Prop)->Prop:=fun W p R=>ti W p fun n item p1=>∃I:Nat->List (List Int)->PSt->Prop,I 0 [] (List.replicate k none++p1)/\n<=100000 /\
 (∀i ys p2,i<n->I i ys p2->ys.length<=i/\g (item i) p2 fun p3=>tt p3 fun b p4=>if b=true then te p4 fun r p5=>∃ns:List Int,r=.ro (ns.map D.int)/\I (i+1) (ys++[ns]) p5 else I (i+1) ys p4) /\
 ∀ys p2,I n ys p2->∀x W1,Mat W1 x ys->HpIn W W1->R x W1 (p2.drop k)
section
variable {X:Cx} {C:Pc} {W:Hp} {p:PSt} {σ:St} {F H:Hp} {k:Nat} {pos:Pos}
theorem WOk.sh (ok:WOk C W):WOk (C.sh k) W:=⟨ok.lst,ok.h0,ok.f0,fun a o e q hq=>by
 obtain ⟨q',hq',z⟩:=List.mem_map.mp hq
 rw [<-z];exact ok.bs a o e q' hq'⟩
theorem WOk.unsh (ok:WOk (C.sh k) W):WOk C W:=⟨ok.lst,ok.h0,ok.f0,fun a o e q hq=>ok.bs a o e (q.1+k,q.2) (List.mem_map.mpr ⟨q,hq,rfl⟩)⟩
theorem Rws.nil:Rws W [] []:=⟨rfl,List.nodup_nil,fun i b ns h=>by simp at h⟩
theorem Rws.mem {bs:List Addr} {ms:List (List Int)} {b:Addr} (r:Rws W bs ms) (h:b∈bs):∃ns,W b=some (.lst (List.map V.int ns)):=by
 obtain ⟨i,hi,e⟩:=List.getElem_of_mem h
 have h1:bs[i]? = some b:=by rw [List.getElem?_eq_getElem hi,e]
 obtain ⟨ns,h2⟩:∃ns,ms[i]? = some ns:=by
  have hj:i<ms.length:=by rw [<-r.len];exact hi
  exact ⟨_,List.getElem?_eq_getElem hj⟩
 exact ⟨ns,r.at_ i b ns h1 h2⟩
theorem Rws.snoc {bs:List Addr} {ms:List (List Int)} {a:Addr} {ns:List Int} (r:Rws W bs ms) (h:W a=none):Rws (upd W a (.lst (ns.map V.int))) (bs++[a]) (ms++[ns]):=by
 have ni:a ∉ bs:=fun z=>by
  obtain ⟨ns,e⟩:=r.mem z
  rw [e] at h;cases h
 refine ⟨by rw [List.length_append,List.length_append,r.len];rfl,List.nodup_append.mpr ⟨r.nd,by simp,fun x hx y hy=>?_⟩,fun i b ns' h1 h2=>?_⟩
 ·rw [List.mem_singleton] at hy;subst hy
  exact fun z=>ni (z▸hx)
 ·by_cases hi:i<bs.length
  ·rw [List.getElem?_append_left hi] at h1
   rw [List.getElem?_append_left (by rw [<-r.len];exact hi)] at h2
   have hb:b≠a:=fun z=>ni (z▸List.mem_of_getElem? h1)
   rw [upd_ne hb];exact r.at_ i b ns' h1 h2
  ·rw [List.getElem?_append_right (by omega)] at h1
   rw [List.getElem?_append_right (by rw [<-r.len];omega)] at h2
   have e:i - bs.length=0:=by
    have:=(List.getElem?_eq_some_iff.mp h1).1
    simpa using this
   rw [<-r.len,e] at h2
   rw [e] at h1
   simp at h1 h2
   subst h1 h2
   exact upd_same
theorem Rws.more {bs:List Addr} {ms:List (List Int)} {a:Addr} {o:HO} (r:Rws W bs ms) (h:a ∉ bs):Rws (upd W a o) bs ms:=⟨r.len,r.nd,fun i b ns h1 h2=>by
 have hb:b≠a:=fun z=>h (by rw [<-z];exact List.mem_of_getElem? h1)
 rw [upd_ne hb];exact r.at_ i b ns h1 h2⟩
theorem comp_lowV {ti:Hp->TIQ} {g:TGQ} {tt:TTQ} {te:TN} {R:Addr->Hp->PSt->Prop} {Q:VK} (rs:RS (C.add W) p σ F H) (ok:WOk C W) (ht:vComp k ti g tt te W p R)
  (hq:∀x W1 p1 F1 H1,RS (C.add W1) p1 σ F1 H1->WOk C W1->Same F F1->R x W1 p1->Q (.ref x) H1) :
  tComp k (UpIW C ti) (UpGkW C k g) (UpTkW C k tt) (UpNkW C k te) σ H Q:=
 ⟨W,ok,p,F,_,rs,ht,fun J H1 zq=>by
  obtain ⟨n,item,p1,F1,rs1,s1,sh1,jq,I,i0,hn,istep,iend⟩:=zq
  have lp:p1.length=σ.length:=rs1.len
  refine ⟨fun i m ys σ2 H2=>m=n - i/\i<=n/\∃W2 p2 F2 bs ms,RS ((C.add W2).sh k) p2 σ2 F2 H2/\WOk C W2/\Same F1 F2/\Shp (List.replicate k none++p1) p2/\σ2.drop k=σ/\ys=bs.map V.ref/\Rws W2 bs ms/\HpIn W W2/\I i ms p2,⟨n,by simp,Nat.zero_le _,W,_,F1,[],[],rs1.shift,ok,.refl _,.refl _,by simp,rfl,.nil,fun _ _ h=>h,i0⟩,?_⟩
  rintro i m ys σ2 H2 ⟨rfl,hi,W2,p2,F2,bs,ms,rs2,ok2,s2,sh2,d2,rfl,rw2,in2,i2⟩
  have hkp:k<=p2.length:=by
   have:=sh2.1
   rw [List.length_append,List.length_replicate] at this
   omega
  by_cases hlt:i<n
  ·obtain ⟨hl,st⟩:=istep i ms p2 hlt i2
   refine .inr ⟨jq.go i F2 H2 rs2.sub s2 hlt,?_,fun ys' σ' H'=>∃W' p' F' bs' ms',RS ((C.add W').sh k) p' σ' F' H'/\WOk C W'/\Same F1 F'/\Shp (List.replicate k none++p1) p'/\σ'.drop k=σ/\ys'=bs'.map V.ref/\Rws W' bs' ms'/\HpIn W W'/\I (i+1) ms' p',fun _ _ _ h=>⟨n - (i+1),by omega,rfl,hlt,h⟩,fun x H' y=>?_⟩
   ·rw [List.length_map,rw2.len];exact Nat.lt_of_le_of_lt hl (Nat.lt_of_lt_of_le (Nat.lt_of_lt_of_le hlt hn) (by decide))
   obtain ⟨F3,rs3,s3,r3⟩:=JQ.out (C:=(C.add W2).sh k) jq rs2 s2 hlt y
   refine ⟨W2,ok2,p2,F3,item i,_,rs3,r3,st,fun σ4 H4 ⟨p4,F4,rs4,s4,sh4,d4,q4⟩=>?_⟩
   refine ⟨W2,ok2,upT1 rs4 q4 fun b p5 F5 H5 rs5 s5 sh5 q5=>?_⟩
   have s15:Same F1 F5:=s2.trans (s3.trans (s4.trans s5))
   refine ite_imp (fun q5=>?_) (fun q5=>?_) q5
   ·refine ⟨W2,ok2,upN1 rs5 q5 fun r6 p6 v6 F6 H6 rs6 s6 sh6 er6 ⟨ns,hz,q6⟩=>?_⟩
    subst hz
    obtain ⟨z,vs,rfl,y1,y2,y3,y4,y5⟩:=er6
    rw [y4.ints] at y3
    obtain ⟨rs7,ok7⟩:=RS.take (C:=C.sh k) (W:=W2) rs6 ok2.sh y1 y2 y3 y5
    have w0:W2 z=none:=(of_add (C:=C.sh k) y2).1
    refine ⟨_,p6,F6,bs++[z],ms++[ns],rs7,ok7.unsh,s15.trans s6,sh2.trans (sh4.trans (sh5.trans sh6)),d4.trans d2,by rw [List.map_append];rfl,rw2.snoc w0,fun b o e=>?_,q6⟩
    have hb:b≠z:=fun e'=>by have:=in2 _ _ e;rw [e',w0] at this;cases this
    rw [upd_ne hb];exact in2 b o e
   ·exact ⟨W2,p5,F5,bs,ms,rs5,ok2,s15,sh2.trans (sh4.trans sh5),d4.trans d2,rfl,rw2,in2,q5⟩
  ·have e:i=n:=by omega
   subst e
   refine .inl ⟨jq.stop F2 H2 rs2.sub s2,fun A hA=>?_⟩
   have rs3:=(rs2.laid (o:=.lst (bs.map V.ref)) hA).unshift hkp
   rw [d2] at rs3
   obtain ⟨f1,f2,f3⟩:=(rs2.unshift hkp).free hA
   rw [d2] at f3
   obtain ⟨rs4,ok4⟩:=rs3.take ok2 f1 f2 upd_same f3
   have nA:∀b o,W2 b=some o->b≠A:=fun b o e z=>by
    have:=rs2.wH (C:=C.sh k) ok2.sh e
    rw [z,hA] at this;cases this
   have ni:A ∉ bs:=fun z=>by
    obtain ⟨ns,e⟩:=rw2.mem z
    exact nA A _ e rfl
   exact hq A _ _ F2 _ rs4 ok4 (s1.trans s2) (iend ms p2 i2 A _ ⟨bs,upd_same,ni,rw2.more ni⟩ fun b o e=>by rw [upd_ne (nA b o (in2 b o e))];exact in2 b o e)⟩
def vMat (i:Nat) (t:Hp->PSt->(Addr->Hp->PSt->Prop)->Prop):TVQ:=fun E W p=>t W p fun x W1 p1=>nbr p1 i=true/\E.nx W1 (p1.set i (some (.d (.atom (.ref x)))))
theorem pgk_w {X:Cx} {tg:Expr} {g:TGQ} (h:∀W,WOk C W->PG X tg (UpGk ((C.add W).sh k) k g)):PG X tg (UpGkW C k g):=fun pins s σ H v u Q I r zq=>by obtain ⟨W,ok,ht⟩:=zq;exact h W ok pins s σ H v u Q I r ht
theorem ptk_w {X:Cx} {ifs:List Expr} {t:TTQ} (h:∀W,WOk C W->PTs X ifs (UpT ((C.add W).sh k) t)):PTs X ifs (UpTkW C k t):=fun pins s σ H Q I zq=>by obtain ⟨W,ok,ht⟩:=zq;exact h W ok pins s σ H Q I ht
theorem pek_w {X:Cx} {e:Expr} {t:TN} (h:∀W,WOk C W->PE X e (UpN ((C.add W).sh k) t)):PE X e (UpNkW C k t):=fun pins s σ H Q I zq=>by obtain ⟨W,ok,ht⟩:=zq;exact h W ok pins s σ H Q I ht
theorem v_setMat {i:Nat} {x:Str} {elt iter tg:Expr} {ifs:List Expr} {scope:Scope} {N:List Str} {ti:Hp->TIQ} {g:TGQ} {tt:TTQ} {te:TN} {pos' pos2:Pos} (hN:X.N.Nodup) (hi':X.N[i]? = some x) (hx:Loc X.env.scope x) (S:CompScope X scope N k) (hc:X.calm=true) (hi:∀W,WOk C W->PI X tg iter (UpI (C.add W) (ti W)))
  (hg:∀W,WOk C W->∀Z s H fp,PG (cxComp X scope N Z s H fp) tg (UpGk ((C.add W).sh k) k g)) (ht:∀W,WOk C W->∀Z s H fp,PTs (cxComp X scope N Z s H fp) ifs (UpT ((C.add W).sh k) tt)) (he:∀W,WOk C W->∀Z s H fp,PE (cxComp X scope N Z s H fp) elt (UpN ((C.add W).sh k) te))
  (hsw:swapsWith (.ListComp elt [⟨tg,iter,ifs,0⟩] scope pos2) (some (.Name x pos')) pos.line X.env=pure true:=by rfl)
  (hs:∀x,foldedSetIterable iter X.env x=pure x:=by intro _;rfl) (hf:X.fn x=true\/X.env.scope.names.lookup x=some .local:=by first|exact .inl rfl|exact .inr rfl|assumption) :
  PS X (.Assign [.Name x pos'] (.ListComp elt [⟨tg,iter,ifs,0⟩] scope pos2) pos) (UpV C (vMat i (vComp k ti g tt te))):=
 VS.mk (ps_setComp hN hi' hx S hc (pi_w hi) (fun Z s H fp=>pgk_w fun W ok=>hg W ok Z s H fp) (fun Z s H fp=>ptk_w fun W ok=>ht W ok Z s H fp) (fun Z s H fp=>pek_w fun W ok=>he W ok Z s H fp) hsw hs hf) fun W p σ F H E rs ok ht=>comp_lowV rs ok ht fun x W1 p1 F1 H1 rs1 ok1 s1 ⟨hn,q⟩=>
  ⟨W1,_,F1,rs1.setD hn (.atom _),ok1,s1,q⟩
end
def rngL (i:Int) (n:Nat):List Int:=(List.range n).map fun (k:Nat)=>i+(k:Int)
theorem rngL_len (i:Int) (n:Nat):(rngL i n).length=n:=by unfold rngL;rw [List.length_map,List.length_range]
theorem rngL_get (i:Int) (n k:Nat) (h:k<n):(rngL i n)[k]? = some (i+(k:Int)):=by unfold rngL;rw [List.getElem?_map,List.getElem?_range h];rfl
section
variable {X:Cx} {C:Pc} {a b c e o k:Expr} {tas:TAQ} {pos ps ps2:Pos} {K:PySem.W.Frag} {F:Hp} {es:List Expr}
theorem vals_of (ns:List Int):∀(us:List Value),us.length=ns.length->(∀(j:Nat) v (n:Int),us[j]? = some v->ns[j]? = some n->∃t,v=Value.int n t)->Vals (ns.map V.int) us:=by
 induction ns with
 | nil=>intro us h _;cases us with|nil=>exact .nil|cons u r=>cases h
 | cons n ns ih=>
  intro us h hz
  cases us with
  | nil=>cases h
  | cons u us=>
   obtain ⟨t,e⟩:=hz 0 u n rfl rfl
   exact .cons ⟨t,e⟩ (ih us (by simpa using h) fun j v m h1 h2=>hz (j+1) v m (by simpa using h1) (by simpa using h2))
def tListRng2 (ta:TA):TE:=fun σ H Q=>ta σ H fun vs H1=>∃i j:Int,vs=[.int i,.int j]/\-(2 ^ 62)<=i/\i<2 ^ 62/\-(2 ^ 62)<=j/\j<2 ^ 62/\(j - i).toNat<=100000/\∀l,H1 l=none->Q (.ref l) (upd H1 l (.lst ((rngL i (j - i).toNat).map V.int)))
theorem pe_listRng2 {ta:TA} {p1 p2 pos2:Pos} (hc:X.calm=true) (hg:Gl X "list") (hm:X.mg "list"=none) (hg2:Gl X "range") (hm2:X.mg "range"=none) (ha:PA X [a,b] ta) (hs:starEach [a,b] X.env=[(false,eval a X.env),(false,eval b X.env)]:=by rfl) (hs2:starEach [b] X.env=[(false,eval b X.env)]:=by rfl) :
  PE X (.Call (.Name "list" p1) [.Call (.Name "range" p2) [a,b] [] pos2] [] pos) (tListRng2 ta):=by
 intro pins s σ H Q I h
 refine Call_ (ld_blt (u:=.type "list") I hg hm (by kernel_rfl) (PyProof.Rows.callWith_type1 ?_ rfl rfl))
 refine Calls.spliced_cons ?_
 refine Call_ (ld_blt I hg2 hm2 boot_range (PyProof.Rows.callWith_type1 (thn (ha pos2 pins s σ H _ I h) fun us s1 ⟨vs,H1,I1,r1,q1⟩=>?_) (by rw [hs,hs2]) (by rw [hs2];rfl)))
 obtain ⟨i,j,e,i0,i1,j0,j1,hz,q⟩:=q1
 subst e
 cases r1 with
 | cons r rr=>
  cases rr with
  | cons r' rr=>
   cases rr
   obtain ⟨t,rfl⟩:=r
   obtain ⟨t',rfl⟩:=r'
   refine call_range_2 ?_
   refine Calls.spliced_nil ?_
   have I2:Inv X pins σ H1 { s1 with heap:=s1.heap.push { cls:=.type "range",data:=.fields #[.int i t,.int j t',.int 1 s1.toks] },toks:=s1.toks+1 }:=I1.kept fun b o e=>Heap.get?_push_of_some _ e
   refine call_list_range (n:=(j - i).toNat) (I2.ok.hd hc) (IsRange.new ..) (small_one i0 i1 j0 j1) (by rw [rangeSize_one];split<;>omega) (by omega) fun h' tk acc' c' kp e items=>?_
   obtain ⟨hz',hit⟩:=items
   have hl:acc'.toList.length=(j - i).toNat:=by rw [Array.length_toList,hz']
   have rv:Vals ((rngL i (j - i).toNat).map V.int) acc'.toList:=by
    refine vals_of _ _ (by rw [hl,rngL_len]) fun k v n hk hn=>?_
    have hkl:k<(j - i).toNat:=by rw [<-hl];exact (List.getElem?_eq_some_iff.mp hk).1
    rw [rngL_get i _ k hkl] at hn
    cases hn
    obtain ⟨t,e⟩:=hit k v (by rw [<-Array.getElem?_toList];exact hk)
    exact ⟨t,by rw [e];congr 1;omega⟩
   exact ⟨.ref _,_,I2.laid (t':=tk) kp (Nat.le_refl _) (show ObjOk X.prog X.w _ h' _ (.lst _) from ⟨by rw [List.length_map,rngL_len,sizeLine_eq];omega,acc'.toList,c',rv,by rw [Array.toArray_toList];exact e⟩),rfl,q _ (I2.hok.fresh (Nat.le_refl _))⟩
def nListRng2 (ta:TAQ):TN:=fun p Q=>ta p fun es p1=>∃e f i j,es=[e,f]/\lk p1 e=.int i/\lk p1 f=.int j/\(-(2 ^ 62)<=i/\i<2 ^ 62/\-(2 ^ 62)<=j/\j<2 ^ 62)/\(j - i).toNat<=100000/\Q (.ro ((rngL i (j - i).toNat).map D.int)) p1
theorem n_listRng2 {p1 p2 pos2:Pos} (hc:X.calm=true) (hg:Gl X "list") (hm:X.mg "list"=none) (hg2:Gl X "range") (hm2:X.mg "range"=none) (ha:PA X [a,b] (UpA C tas)) (hs:starEach [a,b] X.env=[(false,eval a X.env),(false,eval b X.env)]:=by rfl) (hs2:starEach [b] X.env=[(false,eval b X.env)]:=by rfl):PE X (.Call (.Name "list" p1) [.Call (.Name "range" p2) [a,b] [] pos2] [] pos) (UpN C (nListRng2 tas)):=
 QN.mk (pe_listRng2 hc hg hm hg2 hm2 ha hs hs2) fun p σ F H R rs ht=>upA1 rs ht fun es1 p1 vs1 F1 H1 rs1 s1 sh er1 zq=>by
  obtain ⟨e1,e2,i,j,h1,h2,h3,⟨h4,h5,h6,h7⟩,h8,q⟩:=zq
  obtain ⟨v,w,rfl,er,er'⟩:=evs2 er1 h1
  exact ⟨i,j,by rw [ev_int er h2,ev_int er' h3],h4,h5,h6,h7,h8,fun l hl=>fin_new rs1 s1 sh hl (RepL.of_ints _) q⟩
def qAugI (i:Nat) (g:Int->Int->Int) (tk te:TQ):TSQ:=fun E p=>(mutL p i).isSome=true/\tk p fun ek p1=>∃k n xs,mutL p1 i=some xs/\lk p1 ek=.int k/\0<=k/\xs[k.toNat]? = some (.int n)/\te p1 fun ev p2=>∃m ys,lk p2 ev=.int m/\mutL p2 i=some ys/\k.toNat<ys.length/\E.nx (putL p2 i (ys.set k.toNat (.int (g n m))))
theorem s_augI {i : Nat} {g : Int → Int → Int} {op : Operator} {tk te : TQ} {tpos : Pos} (hop : PIp X op (ipI g)) (ho : PE X o (tVar i)) (hk : PE X k (Up C tk)) (he : PE X e (Up C te))
    (ha : ∀ ov iv new, augStore k ov iv new = (do holding [new, ov, iv] (setItem ov iv new); release [new, ov, iv] []; pure .next) := by intros; rfl) :
    PS X (.AugAssign (.Subscript o k tpos) op e pos) (UpS C (qAugI i g tk te)) :=
  QS.mk (ps_augS ho hk get_listP he hop set_list ha) fun p σ F H E rs zq=>by
    obtain ⟨h0, ht⟩:=zq
    obtain ⟨xs0, h0⟩ := Option.isSome_iff_exists.mp h0
    obtain ⟨s, x, vs, g1, g2, g3, g4, g5, g6⟩ := mut_at rs h0
    refine ⟨.ref x, g3, up1 rs ht fun e2 p2 v2 F2 H2 rs2 s2 sh2 er2 ⟨k, n, xs, hm, hk, k0, hn, ht⟩ => ?_⟩
    obtain ⟨s', x', vs', k1, k2, k3, k4, k5, k6⟩ := mut_at rs2 hm
    rw [g3] at k3; cases k3
    obtain ⟨vn, hv, rn⟩ := k5.get hn
    cases rn
    rw [ev_int er2 hk]
    refine ⟨x, vs', k, .int n, rfl, rfl, k4, k0, hv, up1 rs2 ht fun e3 p3 v3 F3 H3 rs3 s3 sh3 er3 ⟨m, ys, g6, hm3, hl, q⟩ => ?_⟩
    rw [ev_int er3 g6]
    obtain ⟨s3', x3', vs3', j1, j2, j3, j4, j5, j6⟩ := mut_at rs3 hm3
    rw [g3] at j3; cases j3
    obtain ⟨rs4, sh4⟩ := rs3.put' hm3 g3 (RepL.set (.int (g n m)) k.toNat j5)
    exact ⟨n, m, rfl, rfl, x, vs3', k, k.toNat, rfl, rfl, j4, ixN_nat k0 (by rw [← j5.length]; exact hl), _, F3, rs4, s2.trans s3, q⟩
end
theorem vd_int (n:Int):vd (.int n)=.int n:=rfl
theorem vd_ref (x:Addr):vd (.ref x)=.atom (.ref x):=rfl
theorem vseq_goK {t R:TVQ} {E:VEnds} {W:Hp} {p:PSt} (h:∀k:Hp->PSt->Prop,(∀W' p',R E W' p'->k W' p')->t { E with nx:=k } W p):vSeq t R E W p:=h (R E) (fun _ _ h=>h)
theorem vseq_goP {t R:TVQ} {E:VEnds} {W:Hp} {p:PSt} (h:t { E with nx:=R E } W p):vSeq t R E W p:=h
theorem vfor_q {ti:Hp->TIQ} {g:Hp->TGQ} {tb:TVQ} {E:VEnds} {W:Hp} {p:PSt} {n:Nat} {item:Nat->D} {p1:PSt} (hti:∀Q:Nat->(Nat->D)->PSt->Prop,Q n item p1->ti W p Q) (I:Nat->Hp->PSt->Prop) (h0:I 0 W p1)
  (hs:∀i W2 p2,i<n->I i W2 p2->g W2 (item i) p2 fun p3=>tb { E with nx:=I (i+1),ct:=I (i+1),bk:=E.nx } W2 p3) (hd:∀W2 p2,I n W2 p2->E.nx W2 p2):vFor ti g tb E W p:=hti _ ⟨I,h0,hs,hd⟩
theorem vfor_c {ti:Hp->TIQ} {g:Hp->TGQ} {tb:TVQ} {E:VEnds} {W:Hp} {p:PSt} (h:ti W p fun n item p1=>vFor (fun _ _ Q=>Q n item p1) g tb E W p1):vFor ti g tb E W p:=h
theorem vwhile_q {c:Hp->TTQ} {tb:TVQ} {E:VEnds} {W:Hp} {p:PSt} (I:Hp->PSt->Prop) (μ:PSt->Nat) (h0:I W p)
  (hs:∀W1 p1,I W1 p1->c W1 p1 fun b p2=>if b=true then tb { E with nx:=fun W q=>I W q/\μ q<μ p1,ct:=fun W q=>I W q/\μ q<μ p1,bk:=E.nx } W1 p2 else E.nx W1 p2):vWhile c tb E W p:=⟨I,μ,h0,hs⟩
theorem vcomp_q {k:Nat} {ti:Hp->TIQ} {g:TGQ} {tt:TTQ} {te:TN} {W:Hp} {p:PSt} {R:Addr->Hp->PSt->Prop} {n:Nat} {item:Nat->D} {p1:PSt} (hti:∀Q:Nat->(Nat->D)->PSt->Prop,Q n item p1->ti W p Q) (hn:n<=100000) (I:Nat->List (List Int)->PSt->Prop) (h0:I 0 [] (List.replicate k none++p1))
  (hl:∀i ys p2,I i ys p2->ys.length<=i)
  (hs:∀i ys p2,i<n->I i ys p2->g (item i) p2 fun p3=>tt p3 fun b p4=>if b=true then te p4 fun r p5=>∃ns:List Int,r=.ro (ns.map D.int)/\I (i+1) (ys++[ns]) p5 else I (i+1) ys p4)
  (hd:∀ys p2,I n ys p2->∀x W1,Mat W1 x ys->HpIn W W1->R x W1 (p2.drop k)):vComp k ti g tt te W p R:=
 hti _ ⟨I,h0,hn,fun i ys p2 hi h=>⟨hl i ys p2 h,hs i ys p2 hi h⟩,hd⟩
theorem nd_inj {α:Type}:∀{l:List α} {i j:Nat},l.Nodup->(h1:i<l.length)->(h2:j<l.length)->l[i]=l[j]->i=j
 | [],i,j,_,h1,_,_=>absurd h1 (Nat.not_lt_zero _)
 | x::l,0,0,_,_,_,_=>rfl
 | x::l,0,j+1,nd,h1,h2,e=>by
  rw [List.nodup_cons] at nd
  simp at e h2
  exact absurd (e▸List.getElem_mem h2) nd.1
 | x::l,i+1,0,nd,h1,h2,e=>by
  rw [List.nodup_cons] at nd
  simp at e h1
  exact absurd (e▸List.getElem_mem h1) nd.1
 | x::l,i+1,j+1,nd,h1,h2,e=>by
  rw [List.nodup_cons] at nd
  simp at e h1 h2
  rw [nd_inj nd.2 h1 h2 e]
section
variable {W:Hp} {bs:List Addr} {ms:List (List Int)} {a b:Addr}
theorem Rws.wr {i:Nat} {ns:List Int} (r:Rws W bs ms) (hb:bs[i]? = some b):Rws (upd W b (.lst (ns.map V.int))) bs (ms.set i ns):=by
 refine ⟨by rw [List.length_set];exact r.len,r.nd,fun j c ns' h1 h2=>?_⟩
 by_cases hj:j=i
 ·subst hj
  rw [hb] at h1;cases h1
  have hl:j<ms.length:=by rw [<-r.len];exact (List.getElem?_eq_some_iff.mp hb).1
  rw [List.getElem?_set_self hl] at h2;cases h2
  exact upd_same
 ·rw [List.getElem?_set_ne (Ne.symm hj)] at h2
  have hc:c≠b:=fun z=>by
   subst z
   obtain ⟨l1,e1⟩:=List.getElem?_eq_some_iff.mp h1
   obtain ⟨l2,e2⟩:=List.getElem?_eq_some_iff.mp hb
   exact hj (nd_inj r.nd l1 l2 (e1.trans e2.symm))
  rw [upd_ne hc];exact r.at_ j c ns' h1 h2
theorem atI_refs {i:Int} (h0:0<=i) (hb:bs[i.toNat]? = some b):atI (bs.map V.ref) i=some (.ref b):=by
 obtain ⟨l,e⟩:=List.getElem?_eq_some_iff.mp hb
 unfold atI
 rw [List.length_map,ixN_nat h0 l]
 show (bs.map V.ref)[i.toNat]? = _
 rw [List.getElem?_map,hb];rfl
theorem atI_ints {ns:List Int} {i:Int} {n:Int} (h0:0<=i) (h:ns[i.toNat]? = some n):atI (ns.map V.int) i=some (.int n):=by
 obtain ⟨l,e⟩:=List.getElem?_eq_some_iff.mp h
 unfold atI
 rw [List.length_map,ixN_nat h0 l]
 show (ns.map V.int)[i.toNat]? = _
 rw [List.getElem?_map,h];rfl
end
theorem meets_rangeRev (r:Addr) (a b c:Int) (t u v:Tok) (hc0:¬(!(Builtin.Range.rangeFitsLong a && Builtin.Range.rangeFitsLong b && Builtin.Range.rangeFitsLong c && Builtin.Range.rangeFitsLong (-c) && Builtin.Range.rangeFitsLong (a - c) && Builtin.Range.rangeFitsLong (Builtin.Range.rangeSize a b c)))=true) :
  Meets (Builtin.«range.__reversed__» ⟨[.ref r],[]⟩) (fun _ R s=>s.heap.get? r=some { cls:=.type "range",dict:=none,data:=.fields #[.int a t,.int b u,.int c v],slots:=#[] }/\R (.ok (.ret (Value.ref s.heap.objs.size))) { s with heap:=s.heap.push { cls:=Value.type (if (Builtin.Range.rangeFitsLong a && Builtin.Range.rangeFitsLong b && Builtin.Range.rangeFitsLong c && Builtin.Range.rangeFitsLong (-c) && Builtin.Range.rangeFitsLong (a - c) && Builtin.Range.rangeFitsLong (Builtin.Range.rangeSize a b c))=true then "range_iterator" else "longrange_iterator"),data:=.fields #[rawInt (a+(Builtin.Range.rangeSize a b c - 1) * c),rawInt (Builtin.Range.rangeSize a b c),rawInt (-c)] } }):=
 .of_wp fun prog w A R s h=>by obtain ⟨hp,g,d,tk,os⟩:=s;obtain ⟨hl,h⟩:=h;wp_walk;exact ⟨_,rfl,h⟩
def rrObj (lo:Int) (n:Nat):Obj:={ cls:=.type "range_iterator",data:=.fields #[rawInt (lo+(n:Int) - 1),rawInt (n:Int),rawInt (-1)] }
theorem sub_ri_reversed:isSubtype (.type "range_iterator") (.type "reversed")=pure false:=by rw [isSubtype_type];kernel_rfl
section
variable {prog:Program} {w:World} {A:Around} {E:Value->Shared->Prop} {s:Shared}
theorem call_range_rev {r:Addr} {lo hi:Int} {t u v:Tok} {Q:Value->Shared->Prop} (hr:IsRange s.heap r lo hi 1 t u v) (h1:-(2 ^ 62)<=lo) (h2:lo<2 ^ 62) (h3:-(2 ^ 62)<=hi) (h4:hi<2 ^ 62)
  (h:Q (.ref s.heap.objs.size) { s with heap:=s.heap.push (rrObj lo (hi - lo).toNat) }):wpAny (model prog w) A (call (.builtin "range.__reversed__") [.ref r]) Q E s:=by
 have hT:s.TypeIs (.ref r) "range":=⟨_,hr,rfl⟩
 have hn:Builtin.Range.rangeSize lo hi 1=((hi - lo).toNat:Int):=by rw [rangeSize_one];split<;>omega
 have sm:(Builtin.Range.rangeFitsLong lo && Builtin.Range.rangeFitsLong hi && Builtin.Range.rangeFitsLong 1 && Builtin.Range.rangeFitsLong (-1) && Builtin.Range.rangeFitsLong (lo - 1) && Builtin.Range.rangeFitsLong (Builtin.Range.rangeSize lo hi 1))=true:=by
  rw [hn]
  simp only [Builtin.Range.rangeFitsLong,Bool.and_eq_true,decide_eq_true_eq]
  omega
 refine call_meets F.slot_range_reversed hT F.entry_range_reversed (F.args_range_reversed_1 _) (meets_rangeRev r lo hi 1 t u v (by rw [sm];decide)) ⟨hr,?_⟩
 rw [if_pos sm,hn]
 have e:lo+(((hi - lo).toNat:Int) - 1) * 1=lo+((hi - lo).toNat:Int) - 1:=by omega
 rw [e]
 exact h
theorem code_reversed_newR {r : Addr} {lo hi : Int} {t u v : Tok} {Q₁ : Value → Shared → Prop} (hr : IsRange s.heap r lo hi 1 t u v) (h1 : -(2 ^ 62) ≤ lo) (h2 : lo < 2 ^ 62) (h3 : -(2 ^ 62) ≤ hi) (h4 : hi < 2 ^ 62)
    (h : Q₁ (.ref s.heap.objs.size) { s with heap := s.heap.push (rrObj lo (hi - lo).toNat) }) :
    codeAny (model prog w) A (.call (.builtin "reversed.__new__") ⟨[.type "reversed", .ref r], []⟩) (wants Q₁ E) s := by
  have hT : s.TypeIs (.ref r) "range" := ⟨_, hr, rfl⟩
  refine codeAny_of_tree ?_
  show wpAny _ A.in1 (do checkBuiltinCall "reversed.__new__" ⟨[.type "reversed", .ref r], []⟩; again (.builtin "reversed.__new__" ⟨[.type "reversed", .ref r], []⟩)) _ _ s
  refine wpAny_bind (wpAny_of_eq (F.newCall_reversed_1 _) (wpAny_pure ⟨plainId_quiet F.plain_reversed_new _, codeAny_builtin F.entry_reversed_new ?_⟩))
  rw [Around.under_plainId F.plain_reversed_new _]
  unfold Builtin.«reversed.__new__»
  refine wpAny_bind (wpAny_of_eq (newClass_reversed _) ?_)
  try dsimp only
  refine wpAny_bind (wpAny_of_eq (a := ()) (by first | rfl | kernel_rfl) ?_)
  refine wpAny_bind (wpAny_of_eq (a := ()) (by first | rfl | kernel_rfl) ?_)
  try dsimp only
  refine wpAny_bind (wpAny_specialOf hT F.slot_range_reversed.lookup ?_)
  try dsimp only
  refine wpAny_bind (wpAny_of_eq (F.slot_range_reversed.bind _) ?_)
  try dsimp only
  first
  | rw [if_neg (show ¬ ((Value.builtin "range.__reversed__" == Value.none) = true) from Bool.false_ne_true)]
  | (show wpAny _ _ (if (Value.builtin "range.__reversed__" == Value.none) = true then _ else _) _ _ _; rw [if_neg (show ¬ ((Value.builtin "range.__reversed__" == Value.none) = true) from Bool.false_ne_true)])
  refine wpAny_bind (wpAny_rule ?_)
  refine wpAny_bind (m := runValue (.call (.builtin "range.__reversed__") ⟨[.ref r], []⟩)) (show wpAny _ _ (call (.builtin "range.__reversed__") [.ref r]) _ _ _ from call_range_rev hr h1 h2 h3 h4 ?_)
  first
  | exact wpAny_pure h
  | exact wpAny_bind (wpAny_pure (wpAny_pure h))
theorem call_reversed_range {r:Addr} {lo hi:Int} {t u v:Tok} {Q:Value->Shared->Prop} (hr:IsRange s.heap r lo hi 1 t u v) (h1:-(2 ^ 62)<=lo) (h2:lo<2 ^ 62) (h3:-(2 ^ 62)<=hi) (h4:hi<2 ^ 62)
  (h:Q (.ref s.heap.objs.size) { s with heap:=s.heap.push (rrObj lo (hi - lo).toNat) }):wpAny (model prog w) A (call (.type "reversed") [.ref r]) Q E s:=by
 refine callType_other (U:="range_iterator") (Q₁:=fun obj s₁=>obj=.ref s.heap.objs.size/\s₁={ s with heap:=s.heap.push (rrObj lo (hi - lo).toNat) }) (by decide +kernel) F.create_reversed ⟨_,_,F.mro_reversed⟩ F.made_reversed sub_ri_reversed (F.typeCall_reversed_1 _) (code_reversed_newR hr h1 h2 h3 h4 ⟨rfl,rfl⟩) ?_
 rintro obj s₁ ⟨rfl,rfl⟩
 exact ⟨⟨_,Heap.get?_push_size _ rfl,rfl⟩,h⟩
end
def Itd (hi:Int) (n:Nat):It:=⟨fun i _=>i<n,fun i H x H'=>H'=H/\x=.int (hi - i),fun i _=>n<=i⟩
theorem turn_rrev {P:Program} {w:World} {K:PySem.W.Frag} {tg:Expr} (it:Addr) (hi:Int) (n:Nat):Turn P w K tg (Itd hi n) [it] it (fun i h=>IsRangeIter h it (hi+(i:Nat) * (-1)) ((n:Int) - (i:Nat)) (-1)) where
 mem:=by simp
 obj:=fun i h st b hb=>by
  have e:b=it:=by simpa using hb
  subst e
  exact ⟨_,st,fun v z=>by
   have z':Data.fields _=Data.cell v:=z
   cases z'⟩
 keep:=fun i h h' st k=>k it (by simp) _ st
 item:=by
  intro X hP hw hK hc i pins s σ H E I hf st hg
  subst hP hw hK
  obtain ⟨f0,f1,f2,f3,f4,f5⟩:=hf it (by simp)
  have W:=Walks.range (prog:=X.prog) (w:=X.w) (I.ok.hd hc) it hi (-1) n
  refine W.item i s _ _ hg st fun v h' tk hv st' kk=>?_
  obtain ⟨t,rfl⟩:=hv
  have I1:Inv X pins σ H { s with heap:=h',toks:=tk }:=I.turned (fun b o hb e=>kk b o (by simpa using hb) e) f0 f1 f3 f4 f5
  refine ⟨_,rfl,go_of (s:={ s with heap:=h',toks:=tk }) (n:="range_iterator") st' rfl rfl (by decide) ⟨.int (hi - i),H,I1,⟨t,?_⟩,⟨rfl,rfl⟩,st',fun b hb=>(hf b hb).1⟩⟩
  rw [show hi+(i:Int) * (-1)=hi - i by omega]
 done:=by
  intro X hP hw hK hc i pins s σ H E I hf st hg
  subst hP hw hK
  obtain ⟨f0,f1,f2,f3,f4,f5⟩:=hf it (by simp)
  exact wpAny_pyNext_range_end (I.ok.hd hc) st (by have:n<=i:=hg;omega) fun h' eb=>⟨rfl,I.turned (t':=s.toks) (fun b o hb e=>eb b o hb e) f0 f1 f3 f4 f5⟩
 self:=fun _ _ _ _ _ st h=>wpAny_pyIter_rangeiter st h
section
variable {X:Cx} {C:Pc} {tas:TAQ} {K:PySem.W.Frag} {F:Hp}
def iRevR (ta:TA):TI:=fun σ H R=>ta σ H fun vs H1=>∃i j:Int,vs=[.int i,.int j]/\(-(2 ^ 62)<=i/\i<2 ^ 62/\-(2 ^ 62)<=j/\j<2 ^ 62)/\R (Itd (i+((j - i).toNat:Int) - 1) (j - i).toNat) H1
theorem pi_revR {a b:Expr} {ta:TA} {tg:Expr} {p1 p2 pos2 pos:Pos} (hg:Gl X "reversed") (hm:X.mg "reversed"=none) (hg2:Gl X "range") (hm2:X.mg "range"=none) (ha:PA X [a,b] ta) (hs:starEach [a,b] X.env=[(false,eval a X.env),(false,eval b X.env)]:=by rfl) (hs2:starEach [b] X.env=[(false,eval b X.env)]:=by rfl) :
  PI X tg (.Call (.Name "reversed" p1) [.Call (.Name "range" p2) [a,b] [] pos2] [] pos) (iRevR ta):=by
 intro pins s σ H R I h
 refine Call_ (ld_blt (u:=.type "reversed") I hg hm (by kernel_rfl) (PyProof.Rows.callWith_type1 ?_ rfl rfl))
 refine Calls.spliced_cons ?_
 refine Call_ (ld_blt I hg2 hm2 boot_range (PyProof.Rows.callWith_type1 (thn (ha pos2 pins s σ H _ I h) fun us s1 ⟨vs,H1,I1,r1,q1⟩=>?_) (by rw [hs,hs2]) (by rw [hs2];rfl)))
 obtain ⟨i,j,e,⟨i0,i1,j0,j1⟩,q⟩:=q1
 subst e
 cases r1 with
 | cons r rr=>
  cases rr with
  | cons r' rr=>
   cases rr
   obtain ⟨t,rfl⟩:=r
   obtain ⟨t',rfl⟩:=r'
   refine call_range_2 ?_
   refine Calls.spliced_nil ?_
   have I2:Inv X pins σ H1 { s1 with heap:=s1.heap.push { cls:=.type "range",data:=.fields #[.int i t,.int j t',.int 1 s1.toks] },toks:=s1.toks+1 }:=I1.kept fun b o e=>Heap.get?_push_of_some _ e
   refine call_reversed_range (IsRange.new ..) i0 i1 j0 j1 ?_
   refine wpAny_pyIter_rangeiter (Heap.get?_push_size _ rfl) ?_
   refine ⟨_,[_],_,_,H1,rfl,I2.kept (t':=s1.toks+1) fun b o e=>Heap.get?_push_of_some _ e,turn_rrev _ (i+((j - i).toNat:Int) - 1) (j - i).toNat,?_,fun b hb=>?_,q⟩
   ·have e1:i+((j - i).toNat:Int) - 1+((0:Nat):Int) * (-1)=i+((j - i).toNat:Int) - 1:=by omega
    have e2:(((j - i).toNat:Nat):Int) - ((0:Nat):Int)=((j - i).toNat:Int):=by omega
    show IsRangeIter _ _ (i+((j - i).toNat:Int) - 1+((0:Nat):Int) * (-1)) ((((j - i).toNat:Nat):Int) - ((0:Nat):Int)) (-1)
    rw [e1,e2]
    exact Heap.get?_push_size _ rfl
   ·have e:=List.mem_singleton.mp hb
    subst e
    exact I2.fpOk (Nat.le_refl _) (I2.hok.fresh (Nat.le_refl _))
theorem jq_rrev (hi:Int) (n:Nat):JQ K (Itd hi n) n (fun i=>.int (hi - i)) F:=⟨fun i F H _ _ h=>h,fun i F H x H' _ _ _ zq=>by obtain ⟨h1,h2⟩:=zq;subst h1 h2;exact .inl ⟨rfl,.int _⟩,fun _ _ _ _=>Nat.le_refl _⟩
def iqRR (ta:TAQ):TIQ:=fun p Q=>ta p fun es p1=>∃e f i j,es=[e,f]/\lk p1 e=.int i/\lk p1 f=.int j/\(-(2 ^ 62)<=i/\i<2 ^ 62/\-(2 ^ 62)<=j/\j<2 ^ 62)/\Q (j - i).toNat (fun k=>.int (i+((j - i).toNat:Int) - 1 - k)) p1
theorem i_revR {a b tg:Expr} {p1 p2 pos2 pos:Pos} (hg:Gl X "reversed") (hm:X.mg "reversed"=none) (hg2:Gl X "range") (hm2:X.mg "range"=none) (ha:PA X [a,b] (UpA C tas)) (hs:starEach [a,b] X.env=[(false,eval a X.env),(false,eval b X.env)]:=by rfl) (hs2:starEach [b] X.env=[(false,eval b X.env)]:=by rfl):PI X tg (.Call (.Name "reversed" p1) [.Call (.Name "range" p2) [a,b] [] pos2] [] pos) (UpI C (iqRR tas)):=
 QI.mk (pi_revR hg hm hg2 hm2 ha hs hs2) fun p σ F H R rs ht=>upA1 rs ht fun es1 p1 vs1 F1 H1 rs1 s1 sh er1 zq=>by
  obtain ⟨e1,e2,i,j,h0,h1,h2,h3,q⟩:=zq
  obtain ⟨v,w,rfl,er,er'⟩:=evs2 er1 h0
  exact ⟨i,j,by rw [ev_int er h1,ev_int er' h2],h3,_,_,p1,F1,rs1,s1,sh,jq_rrev _ _,q⟩
end
def datOf (p:PSt):Ev->Option D
 | .fz x=>some x
 | .ow i=>match mutL p i with
  | some xs=>some (.lst xs)
  | none=>none
def datsOf (p:PSt):List Ev->Option (List D)
 | []=>some []
 | e::r=>match datOf p e,datsOf p r with
  | some s,some ss=>some (s::ss)
  | _,_=>none
def Flat:D->Prop
 | .non=>True
 | .bl _=>True
 | .int _=>True
 | .str _=>True
 | _=>False
section
variable {X:Cx} {C:Pc} {e:Expr} {es:List Expr} {pos:Pos} {K:PySem.W.Frag} {p:PSt} {σ:St} {F F' H:Hp} {tas:TAQ}
theorem Flat.rep {x:D} {v:V} (h:Flat x) (r:Rep K F x v):Rep K F' x v:=by
 cases r with
 | non=>exact .non
 | bl b=>exact .bl b
 | int i=>exact .int i
 | str s=>exact .str s
 | _=>exact h.elim
theorem dats_ok (rs:RS C p σ F H):∀{es:List Ev} {vs:List V} {ds:List D},EvRs C.K p σ F es vs->datsOf p es=some ds->∃F',Same F F'/\Same F' H/\RepL C.K F' ds vs
 | [],_,ds,.nil,h=>by cases h;exact ⟨F,.refl _,rs.sub,.nil⟩
 | e::es,v::vs,ds,.cons r t,h=>by
  unfold datsOf at h
  cases h1:datOf p e with
  | none=>rw [h1] at h;simp at h
  | some d=>
   cases h2:datsOf p es with
   | none=>rw [h1,h2] at h;simp at h
   | some dr=>
    rw [h1,h2] at h
    simp at h
    subst h
    obtain ⟨F',s1,s2,rl⟩:=dats_ok rs t h2
    cases e with
    | fz x=>
     cases h1
     exact ⟨F',s1,s2,.cons (Rep.mono s1 r) rl⟩
    | ow i=>
     have h1:(match mutL p i with|some xs=>some (D.lst xs)|none=>none)=some d:=h1
     cases hm:mutL p i with
     | none=>rw [hm] at h1;cases h1
     | some xs=>
      rw [hm] at h1;cases h1
      obtain ⟨s,a,us,g1,g2,g3,g4,g5,g6⟩:=mut_at rs hm
      obtain ⟨_,hσ⟩:=r
      rw [g3] at hσ;cases hσ
      cases q:F' a with
      | none=>
       have sm:=same_upd q (HO.lst us)
       refine ⟨upd F' a (.lst us),s1.trans sm,fun b o e=>?_,.cons (.lst upd_same (g5.mono (s1.trans sm))) (rl.mono sm)⟩
       by_cases hb:b=a
       ·subst hb;rw [upd_same] at e;cases e;exact g4
       ·rw [upd_ne hb] at e;exact s2 b o e
      | some o=>
       have:=s2 a o q
       rw [g4] at this;cases this
       exact ⟨F',s1,s2,.cons (.lst q (g5.mono s1)) rl⟩
theorem args_dats {ds:List D} {vs:List V} (r:RepL K F ds vs):ArgsR K F H (ds.map Sl.d) vs:=by
 refine ⟨by rw [List.length_map];exact r.length,fun i s h=>?_,fun i j xs ys a hij h1=>?_⟩
 ·rw [List.getElem?_map] at h
  cases e:ds[i]? with
  | none=>rw [e] at h;cases h
  | some d=>rw [e] at h;cases h;obtain ⟨v,e1,e2⟩:=r.get e;exact ⟨v,e1,e2⟩
 ·rw [List.getElem?_map] at h1
  cases e:ds[i]? with
  | none=>rw [e] at h1;cases h1
  | some d=>rw [e] at h1;cases h1
def nCallF (S:PSp) (t:TAQ):TN:=fun p Q=>t p fun es p1=>∃ds,datsOf p1 es=some ds/\S (ds.map Sl.d) fun r _=>∃x,r=.rd x/\Flat x/\Q (.rd x) p1
theorem n_callF {x:Str} {st:Stmt} {ps:List Str} {k:Nat} {S:PSp} {p0:Pos} (hK:X.K=C.K) (D:DefAt X.K X.mg x st ps) (G:FnOk X.prog X.w X.K X.mg X.base CX0 k D.f D.fd ps (spOf X.K S)) (hr:Room k X.A) (ha:PA X (e::es) (UpA C tas))
  (hg:Gl X x:=by rfl) (hdb:(x == ("__debug__":Str))=false:=by decide) (he:starEach (e::es) X.env=(false,eval e X.env)::starEach es X.env:=by rfl) (hpl:(backTo pos (starEach es X.env)).any (·.1)=false:=by rfl) :
  PE X (.Call (.Name x p0) (e::es) [] pos) (UpN C (nCallF S tas)):=
 QN.mk (pe_callD D G hr ha hg hdb he hpl) fun p σ F H R rs ht=>upA1 rs ht fun es1 p1 vs1 F1 H1 rs1 s1 sh er1 zq=>by
  obtain ⟨ds,h1,q⟩:=zq
  rw [List.append_nil,hK]
  obtain ⟨F',z1,z2,rl⟩:=dats_ok rs1 er1 h1
  refine ⟨ds.map Sl.d,F',_,z2,args_dats rl,q,fun r as' v F'' H'' po hq=>?_⟩
  obtain ⟨x,rfl,fx,hR⟩:=hq
  have kp:Same H1 H'':=fun a o e=>po.keep a o e fun i xs h=>by
   rw [List.getElem?_map] at h
   cases e:ds[i]? with
   | none=>rw [e] at h;cases h
   | some d=>rw [e] at h;cases h
  have rs2:RS C p1 σ F1 H'':=rs1.more kp (.refl _) (rs1.sub.trans kp) (fun x o h=>.inl h)
  exact ⟨.rd x,p1,F1,rs2,s1,sh,fx.rep po.res,hR⟩
end
section
variable {X:Cx} {C:Pc} {e:Expr} {pos:Pos}
def vAug (i:Nat) (g:Int->Int->Int) (t:TVE):TVQ:=fun E W p=>∃n,p[i]? = some (some (.d (.int n)))/\t W p fun d W1 p1=>∃m,d=.int m/\nbr p1 i=true/\E.nx W1 (p1.set i (some (.d (.int (g n m)))))
theorem v_aug {i:Nat} {x:Str} {op:Operator} {g:Int->Int->Int} {t:TVE} {pos':Pos} (hop:PIp X op (ipI g)) (hN:X.N.Nodup) (hi:X.N[i]? = some x) (hx:Loc X.env.scope x) (he:PE X e (UpEV C t)) (hf:X.fn x=true\/X.env.scope.names.lookup x=some .local:=by first|exact .inl rfl|exact .inr rfl|assumption) :
  PS X (.AugAssign (.Name x pos') op e pos) (UpV C (vAug i g t)):=
 VS.mk (ps_aug hN hi hx he hop hf) fun W p σ F H E rs ok zq=>by
  obtain ⟨n,h0,ht⟩:=zq
  obtain ⟨v,e1,r1⟩:=rs.sl i _ h0
  cases r1
  exact ⟨.int n,e1,W,p,F,_,rs,ok,ht,fun d v W1 p1 F1 H1 rs1 ok1 s1 r1 zq=>by
   obtain ⟨m,hm,hn,q⟩:=zq
   subst hm
   cases r1
   exact ⟨n,m,rfl,rfl,W1,_,F1,rs1.setD hn (.int _),ok1,s1,q⟩⟩
end
section
variable {X:Cx} {C:Pc} {W:Hp} {a b e o:Expr} {es:List Expr} {pos ps apos:Pos} {K:PySem.W.Frag} {p:PSt} {σ:St} {F H:Hp} {tas:TAQ} {k:Nat}
def vForH (ti:Hp->TQ) (g:Hp->TGQ) (tb:TVQ):TVQ:=fun E W p=>ti W p fun e p1=>∃x vs,lk p1 e=.atom (.ref x)/\W x=some (.lst vs)/\∃I:Nat->Hp->PSt->Prop,I 0 W p1/\(∀i W2 p2,I i W2 p2->W2 x=some (.lst vs))/\(∀i v W2 p2,vs[i]? = some v->I i W2 p2->g W2 (vd v) p2 fun p3=>tb { E with nx:=I (i+1),ct:=I (i+1),bk:=E.nx } W2 p3)/\∀W2 p2,I vs.length W2 p2->E.nx W2 p2
theorem v_forH {iter tg:Expr} {body:List Stmt} {ti:Hp->TQ} {g:Hp->TGQ} {tb:TVQ} (hp:PassesOwn (model X.prog X.w) X.A X.env X.xe) (hc:X.calm=true) (hK:X.K=C.K) (hi:∀W,WOk C W->PE X iter (Up (C.add W) (ti W))) (hg:∀W,WOk C W->PG X tg (UpG (C.add W) (g W))) (hb:PSs X body (UpV C tb))
  (hs:∀x,foldedSetIterable iter X.env x=pure x:=by intro _;rfl):PS X (.For tg iter body [] pos) (UpV C (vForH ti g tb)):=
 VS.mk (ps_for hp hc (pi_listK hK (pe_w hi)) (pg_w hg) hb hs) fun W p σ F H E rs ok ht=>⟨W,ok,up1 rs ht fun e1 p1 v1 F1 H1 rs1 s1 sh1 er1 zq=>by
  obtain ⟨x,vs,hx,hw,I,i0,im,istep,iend⟩:=zq
  refine ⟨x,ev_atom er1 hx,⟨vs,.of (rs1.wH ok hw)⟩,?_⟩
  refine ⟨fun i m σ H=>m=vs.length - i/\i<=vs.length/\∃W p F,RS (C.add W) p σ F H/\WOk C W/\Same F1 F/\I i W p,⟨vs.length,by simp,Nat.zero_le _,W,p1,F1,rs1,ok,.refl _,i0⟩,?_⟩
  rintro i m σ2 H2 ⟨rfl,hi,W2,p2,F2,rs2,ok2,s2,i2⟩
  have sq:SqL C.K H2 x vs:=.of (rs2.wH ok2 (im i W2 p2 i2))
  by_cases hlt:i<vs.length
  ·have e3:vs[i]? = some vs[i]:=List.getElem?_eq_getElem hlt
   refine .inr ⟨⟨vs,_,sq,e3⟩,fun σ' H'=>∃W p F,RS (C.add W) p σ' F H'/\WOk C W/\Same F1 F/\I (i+1) W p,fun σ' H' h=>⟨vs.length - (i+1),by omega,rfl,hlt,h⟩,fun y H' hy=>?_⟩
   obtain ⟨e1,e2⟩:=hy
   subst e1
   have e4:=e2 vs sq
   refine ⟨W2,ok2,p2,F2,vd y,_,rs2,vd_ok y F2,istep i y W2 p2 e4 i2,fun σ4 H4 ⟨p4,F4,rs4,s4,q4⟩=>⟨W2,p4,F4,_,rs4,ok2,q4,?_⟩⟩
   have s14:Same F1 F4:=s2.trans s4
   exact ⟨fun _ _ zq=>by obtain ⟨W5,p5,F5,a,k,b,c⟩:=zq;exact ⟨W5,p5,F5,a,k,s14.trans b,c⟩,fun _ _ zq=>by obtain ⟨r,W5,p5,σ5,F5,a,k,b,c⟩:=zq;exact ⟨r,W5,p5,σ5,F5,a,k,s1.trans (s14.trans b),c⟩,fun _ _ zq=>by obtain ⟨W5,p5,F5,a,k,b,c⟩:=zq;exact ⟨W5,p5,F5,a,k,s1.trans (s14.trans b),c⟩,fun _ _ zq=>by obtain ⟨W5,p5,F5,a,k,b,c⟩:=zq;exact ⟨W5,p5,F5,a,k,s14.trans b,c⟩⟩
  ·have e:i=vs.length:=by omega
   subst e
   exact .inl ⟨⟨vs,sq,Nat.le_refl _⟩,W2,p2,F2,rs2,ok2,s1.trans s2,iend W2 p2 i2⟩⟩
end
section
variable {X:Cx} {C:Pc} {W:Hp} {a b e o:Expr} {es:List Expr} {pos ps apos:Pos} {K:PySem.W.Frag} {p:PSt} {σ:St} {F H:Hp} {k:Nat}
def vApp (to:Hp->TQ) (ta:Hp->TAQ):TVE:=fun W p Q=>to W p fun eo p1=>∃x vs,lk p1 eo=.atom (.ref x)/\W x=some (.lst vs)/\ta W p1 fun es p2=>∃d,es=[.fz d]/\vs.length<100000/\∀v,(∀n:Int,d=.int n->v=.int n)->Q .non (upd W x (.lst (vs++[v]))) p2
theorem v_app {to:Hp->TQ} {tas:Hp->TAQ} (hK:X.K=C.K) (ho:∀W,WOk C W->PE X o (Up (C.add W) (to W))) (ha:∀W,WOk C W->PA X [e] (UpA (C.add W) (tas W)))
  (hbase:attributeBase o "append" X.env (eval o X.env)=eval o X.env:=by rfl)
  (hfew:((backTo pos (starEach [e] X.env)).all (fun x=>!x.1) && (backToKw pos (keywordEach [] X.env)).all (fun x=>x.1.isSome)
   && decide ([e].length+([]:List Keyword).length+(if ([]:List Keyword).isEmpty then 0 else 1)<30))=true:=by rfl)
  (hline:(apos.endLine == pos.line)=true:=by rfl) (hs:starEach [e] X.env=(false,eval e X.env)::starEach [] X.env:=by rfl):PE X (.Call (.Attribute o "append" apos) [e] [] pos) (UpEV C (vApp to tas)):=fun pins s σ H Q I zq=>by
 obtain ⟨W,p,F,R,rs,ok,ht,hq⟩:=zq
 refine pe_bm PySem.F.plainAttrs_list PySem.F.slot_list_append PySem.F.type_list_append mt_append (pe_w ho) (pa_w ha) hbase hfew hline hs rfl pins s σ H Q I ?_
 rw [hK]
 refine ⟨W,ok,up1 rs ht fun e1 p1 v1 F1 H1 rs1 s1 sh er1 ⟨x,vs,hx,hw,ht⟩=>?_⟩
 rw [ev_atom er1 hx]
 refine ⟨.inl ⟨rfl,vs,.of (rs1.wH ok hw)⟩,W,ok,upA1 rs1 ht fun es2 p2 vs2 F2 H2 rs2 s2 sh2 er2 ⟨d,h2,hl,q⟩=>?_⟩
 obtain ⟨v,rfl,er⟩:=evs1 er2 h2
 obtain ⟨rs3,ok3⟩:=rs2.wput (us:=vs++[v]) ok hw
 refine ⟨x,vs,v,rfl,rfl,rs2.wH ok hw,Nat.lt_of_lt_of_le hl (by decide),hq .non .non _ p2 F2 _ rs3 ok3 (s1.trans s2) .non (q v fun n hn=>?_)⟩
 subst hn
 cases er;rfl
end
def kOf:D->Option Key
 | .int i=>some (.inl i)
 | .str x=>some (.inr x)
 | _=>none
def ksOf:List D->Option (List Key)
 | []=>some []
 | d::ds=>match kOf d,ksOf ds with
  | some k,some ks=>some (k::ks)
  | _,_=>none
def flaV:D->Option V
 | .int n=>some (.int n)
 | .str x=>some (.str x)
 | .non=>some .non
 | .bl b=>some (.bl b)
 | _=>none
section
variable {K:PySem.W.Frag} {F:Hp}
theorem kOf_rep {d:D} {v:V} {k:Key} (r:Rep K F d v) (h:kOf d=some k):v=kV k:=by
 cases d<;>first|(cases h;cases r;rfl)|cases h
theorem ksOf_rep:∀{ds:List D} {vs:List V} {ks:List Key},RepL K F ds vs->ksOf ds=some ks->vs=ks.map kV
 | [],_,_,.nil,h=>by cases h;rfl
 | d::ds,_,ks,.cons r t,h=>by
  unfold ksOf at h
  cases h1:kOf d with
  | none=>rw [h1] at h;cases h
  | some k=>
   cases h2:ksOf ds with
   | none=>rw [h1,h2] at h;cases h
   | some ks'=>
    rw [h1,h2] at h
    cases h
    rw [kOf_rep r h1,ksOf_rep t h2];rfl
theorem flaV_rep {d:D} {v u:V} (r:Rep K F d v) (h:flaV d=some u):v=u:=by
 cases d<;>first|(cases h;cases r;rfl)|cases h
end
section
variable {X:Cx} {C:Pc} {a b c e o k:Expr} {es:List Expr} {pos:Pos} {K:PySem.W.Frag} {p:PSt} {σ:St} {F H:Hp} {st:Stmt} {t:TVQ}
def vDicT:TVE:=fun W p Q=>∀a,W a=none->Q (.atom (.ref a)) (upd W a (.dT [])) p
theorem e_dicT:PE X (.Dict [] [] pos) (UpEV C vDicT):=fun pins s σ H Q I ⟨W,p,F,R,rs,ok,ht,hq⟩=>
 pe_dnewT pins s σ H Q I fun d hd=>by
  obtain ⟨f1,f2,f3⟩:=rs.free hd
  obtain ⟨rs2,ok2⟩:=(rs.laid (o:=.dT []) hd).takeO ok f1 f2 upd_same (.inr (.inr ⟨_,rfl⟩)) f3
  exact hq _ _ _ _ _ _ rs2 ok2 (.refl _) (.atom _) (ht d (of_add f2).1)
def vPutK (te to tk:Hp->TQ):TVQ:=fun E W p=>te W p fun ev p1=>to W p1 fun eo p2=>tk W p2 fun ek p3=>∃x kvs v k,flaV (lk p3 ev)=some v/\lk p3 eo=.atom (.ref x)/\W x=some (.dK kvs)/\kOf (lk p3 ek)=some k/\kvs.length<sizeLine/\E.nx (upd W x (.dK (putK kvs k v))) p3
def vPutT (te to tk:Hp->TQ):TVQ:=fun E W p=>te W p fun ev p1=>to W p1 fun eo p2=>tk W p2 fun ek p3=>∃x kvs v ds ks,flaV (lk p3 ev)=some v/\lk p3 eo=.atom (.ref x)/\W x=some (.dT kvs)/\lk p3 ek=.tup ds/\ksOf ds=some ks/\kvs.length<sizeLine/\E.nx (upd W x (.dT (putK kvs ks v))) p3
theorem ev_flat {e1:Ev} {v u:V} (er:EvR C.K p σ F e1 v) (h:flaV (lk p e1)=some u):v=u:=by
 cases e1 with
 | fz x=>exact flaV_rep er h
 | ow i=>
  obtain ⟨⟨s,h1,m⟩,h2⟩:=er
  have el:lk p (.ow i)=s.val:=by show (match p[i]? with|some (some s)=>s.val|_=>.non)=_;rw [h1]
  rw [el] at h
  cases s<;>first|(cases m;done)|(cases h;done)
theorem ev_key {e1:Ev} {v:V} {k:Key} (er:EvR C.K p σ F e1 v) (h:kOf (lk p e1)=some k):v=kV k:=by
 cases e1 with
 | fz x=>exact kOf_rep er h
 | ow i=>
  obtain ⟨⟨s,h1,m⟩,h2⟩:=er
  have el:lk p (.ow i)=s.val:=by show (match p[i]? with|some (some s)=>s.val|_=>.non)=_;rw [h1]
  rw [el] at h
  cases s<;>first|(cases m;done)|(cases h;done)
theorem v_putK {te to tk:Hp->TQ} {pt:Pos} (hu:X.A.units+64<cLine) (he:∀W,WOk C W->PE X e (Up (C.add W) (te W))) (ho:∀W,WOk C W->PE X o (Up (C.add W) (to W))) (hk:∀W,WOk C W->PE X k (Up (C.add W) (tk W)))
  (hs:swapsWith e (some (.Subscript o k pt)) pos.line X.env=pure false:=by rfl):PS X (.Assign [.Subscript o k pt] e pos) (UpV C (vPutK te to tk)):=
 VS.mk (ps_dput (by omega) (pe_w ho) (pe_w hk) (pe_w he) hs) fun W p σ F H E rs ok ht=>⟨W,ok,up1 rs ht fun e1 p1 v1 F1 H1 rs1 s1 sh1 er1 ht=>
  ⟨W,ok,up1 rs1 ht fun e2 p2 v2 F2 H2 rs2 s2 sh2 er2 ht=>⟨W,ok,up1 rs2 ht fun e3 p3 v3 F3 H3 rs3 s3 sh3 er3 zq=>by
   obtain ⟨x,kvs,v,k,g1,g2,g3,g4,g5,q⟩:=zq
   rw [ev_key er3 g4,ev_atom (er2.mono s3 sh3) g2,ev_flat ((er1.mono s2 sh2).mono s3 sh3) g1]
   obtain ⟨rs4,ok4⟩:=rs3.wputO (us:=.dK (putK kvs k v)) ok g3 (.inr (.inl ⟨_,rfl⟩))
   exact ⟨x,_,rfl,DPut.k (rs3.wH ok g3) g5,_,p3,F3,rs4,ok4,s1.trans (s2.trans s3),q⟩⟩⟩⟩
theorem v_putT {te to tk:Hp->TQ} {pt:Pos} (hu:X.A.units+64<cLine) (he:∀W,WOk C W->PE X e (Up (C.add W) (te W))) (ho:∀W,WOk C W->PE X o (Up (C.add W) (to W))) (hk:∀W,WOk C W->PE X k (Up (C.add W) (tk W)))
  (hs:swapsWith e (some (.Subscript o k pt)) pos.line X.env=pure false:=by rfl):PS X (.Assign [.Subscript o k pt] e pos) (UpV C (vPutT te to tk)):=
 VS.mk (ps_dput (by omega) (pe_w ho) (pe_w hk) (pe_w he) hs) fun W p σ F H E rs ok ht=>⟨W,ok,up1 rs ht fun e1 p1 v1 F1 H1 rs1 s1 sh1 er1 ht=>
  ⟨W,ok,up1 rs1 ht fun e2 p2 v2 F2 H2 rs2 s2 sh2 er2 ht=>⟨W,ok,up1 rs2 ht fun e3 p3 v3 F3 H3 rs3 s3 sh3 er3 zq=>by
   obtain ⟨x,kvs,v,ds,ks,g1,g2,g3,g4,g5,g6,q⟩:=zq
   obtain ⟨a3,vs,rfl,hq,hr⟩:=ev_tup rs3 er3 g4
   have e5:=ksOf_rep hr g5
   subst e5
   rw [ev_atom (er2.mono s3 sh3) g2,ev_flat ((er1.mono s2 sh2).mono s3 sh3) g1]
   obtain ⟨rs4,ok4⟩:=rs3.wputO (us:=.dT (putK kvs ks v)) ok g3 (.inr (.inr ⟨_,rfl⟩))
   exact ⟨x,_,rfl,DPut.t (rs3.wH ok g3) hq g6,_,p3,F3,rs4,ok4,s1.trans (s2.trans s3),q⟩⟩⟩⟩
def rGet:V->List V->Hp->VK->Prop:=fun x vs H Q=>∃a y d o,x=.ref a/\vs=[y,d]/\DGet H a y o/\Q (o.getD d) H
theorem mt_get (hu:X.A.units+64<cLine):MtR X "dict.get" rGet:=by
 intro pins s σ H x vs v us Q I rx rv h
 obtain ⟨a,y,d,o,rfl,rfl,g,q⟩:=h
 cases rx
 cases rv with
 | @cons _ u1 _ us' r1 t=>
  cases t with
  | @cons _ u2 _ us'' r2 t=>
   cases t
   rcases g with ⟨kvs,k,e,ey,l⟩|⟨kvs,k,b,e,ey,eb,l⟩
   ·subst ey
    obtain ⟨z,hd,vs,rel,dd⟩:=dk_rd I.hok e
    refine call_meetsIn PySem.F.slot_dict_get dd.typeIs PySem.F.entry_dict_get (PySem.F.args_dict_get_3 _ _ _) (meets_dict_get_default (mixKind X.prog X.w) a (kV_is r1) hd u2) ⟨_,dd.mapOf,?_⟩
    refine ⟨o.getD d,H,I.tok _,?_,q⟩
    have rl:=rel.val k
    rw [<-l] at rl
    cases o with
    | none=>
     cases hv:valueAt vs k with
     | none=>exact r2
     | some w=>rw [hv] at rl;exact rl.elim
    | some v'=>
     cases hv:valueAt vs k with
     | none=>rw [hv] at rl;exact rl.elim
     | some w=>rw [hv] at rl;exact rl
   ·subst ey
    cases (show u1=Value.ref b from r1)
    obtain ⟨z,hd,xs,rel,dd⟩:=dt_rd I.hok e
    refine call_meetsIn PySem.F.slot_dict_get dd.typeIs PySem.F.entry_dict_get (PySem.F.args_dict_get_3 _ _ _) (meetsH_dict_get_default (tupleKind (mixKind X.prog X.w)) a b hd u2) ⟨tupleKind_room_in1 (by omega),k,xs,key_of I.hok eb,dd,?_⟩
    refine ⟨o.getD d,H,I.tok _,?_,q⟩
    have rl:=rel.val k
    rw [<-l] at rl
    cases o with
    | none=>
     cases hv:(atKey xs k).map (·.2) with
     | none=>exact r2
     | some w=>rw [hv] at rl;exact rl.elim
    | some v'=>
     cases hv:(atKey xs k).map (·.2) with
     | none=>rw [hv] at rl;exact rl.elim
     | some w=>rw [hv] at rl;exact rl
variable {tas:TAQ} {apos ps:Pos}
def qGetT (W:Hp) (to:TQ) (ta:TAQ):TQ:=fun p Q=>to p fun e1 p1=>(∃x kvs,lk p1 e1=.atom (.ref x)/\W x=some (.dT kvs))/\ta p1 fun es p2=>∃e2 d v x kvs ds ks,es=[e2,.fz d]/\flaV d=some v/\lk p2 e1=.atom (.ref x)/\W x=some (.dT kvs)/\lk p2 e2=.tup ds/\ksOf ds=some ks/\(∀w,valV kvs ks=some w->∃y,flaV y=some w)/\∀y,flaV y=some ((valV kvs ks).getD v)->Q (.fz y) p2
theorem fla_rep {K:PySem.W.Frag} {F:Hp} {d:D} {v:V} (h:flaV d=some v):Rep K F d v:=by
 cases d<;>first|(cases h;done)|(cases h;constructor;done)
theorem m_getT {W:Hp} {to:TQ} {a2:Expr} (ok:WOk C W) (hK:X.K=C.K) (hu:X.A.units+64<cLine) (ho:PE X o (Up (C.add W) to)) (ha:PA X [e,a2] (UpA (C.add W) tas))
  (hbase:attributeBase o "get" X.env (eval o X.env)=eval o X.env:=by rfl)
  (hfew:((backTo pos (starEach [e,a2] X.env)).all (fun x=>!x.1) && (backToKw pos (keywordEach [] X.env)).all (fun x=>x.1.isSome)
   && decide ([e,a2].length+([]:List Keyword).length+(if ([]:List Keyword).isEmpty then 0 else 1)<30))=true:=by rfl)
  (hline:(apos.endLine == pos.line)=true:=by rfl) (hs:starEach [e,a2] X.env=(false,eval e X.env)::starEach [a2] X.env:=by rfl) (hplain:(backTo pos (starEach [a2] X.env)).any (·.1)=false:=by rfl):PE X (.Call (.Attribute o "get" apos) [e,a2] [] pos) (Up (C.add W) (qGetT W to tas)):=by
 refine QE.mk (pe_bm PySem.F.plainAttrs_dict PySem.F.slot_dict_get PySem.F.type_dict_get (mt_get hu) ho ha hbase hfew hline hs hplain) fun p σ F H R rs ht=>?_
 rw [hK]
 refine up1 rs ht fun e1 p1 v1 F1 H1 rs1 s1 sh er1 ⟨⟨x,kvs,hd,hW⟩,ht⟩=>?_
 rw [ev_atom er1 hd]
 refine ⟨.inr (.inr (.inl ⟨rfl,.inr ⟨_,rs1.wH ok hW⟩⟩)),upA1 rs1 ht fun es2 p2 vs2 F2 H2 rs2 s2 sh2 er2 ⟨e2,d,v',x2,kvs2,ds,ks,h2,hf,h3,hW2,h4,h5,h6,q⟩=>?_⟩
 obtain ⟨v,w,rfl,er,er'⟩:=evs2 er2 h2
 have ex:V.ref x=.ref x2:=by rw [<-ev_atom (er1.mono s2 sh2) h3,ev_atom er1 hd]
 cases ex
 have hw:w=v':=flaV_rep er' hf
 subst hw
 obtain ⟨a3,us,rfl,hq,hr⟩:=ev_tup rs2 er h4
 have e5:=ksOf_rep hr h5
 subst e5
 refine ⟨x,_,_,valV kvs2 ks,rfl,rfl,DGet.t (rs2.wH ok hW2) hq,?_⟩
 obtain ⟨y,hy⟩:∃y,flaV y=some ((valV kvs2 ks).getD w):=by
  cases hv:valV kvs2 ks with
  | none=>exact ⟨d,hf⟩
  | some z=>exact h6 z hv
 exact fin_ev rs2 (s1.trans s2) (sh.trans sh2) (fla_rep hy) (q y hy)
end
end L2
set_option maxHeartbeats 400000
namespace L2
open PySem PySem.Spec PyProof.Rows
def flaVs:List D->Option (List V)
 | []=>some []
 | d::ds=>match flaV d,flaVs ds with
  | some v,some vs=>some (v::vs)
  | _,_=>none
section
variable {K:PySem.W.Frag} {F:Hp}
theorem flaVs_rep:∀{ds:List D} {us vs:List V},RepL K F ds us->flaVs ds=some vs->us=vs
 | [],_,_,.nil,h=>by cases h;rfl
 | d::ds,_,vs,.cons r t,h=>by
  unfold flaVs at h
  cases h1:flaV d with
  | none=>rw [h1] at h;cases h
  | some k=>
   cases h2:flaVs ds with
   | none=>rw [h1,h2] at h;cases h
   | some ks=>
    rw [h1,h2] at h
    cases h
    rw [flaV_rep r h1,flaVs_rep t h2]
theorem flaVs_ok:∀{ds:List D} {vs:List V},flaVs ds=some vs->RepL K F ds vs
 | [],_,h=>by cases h;exact .nil
 | d::ds,vs,h=>by
  unfold flaVs at h
  cases h1:flaV d with
  | none=>rw [h1] at h;cases h
  | some k=>
   cases h2:flaVs ds with
   | none=>rw [h1,h2] at h;cases h
   | some ks=>
    rw [h1,h2] at h
    cases h
    exact .cons (fla_rep h1) (flaVs_ok h2)
theorem flaVs_ints:∀ns:List Int,flaVs (ns.map D.int)=some (ns.map V.int)
 | []=>rfl
 | n::ns=>by
  rw [List.map_cons,List.map_cons]
  unfold flaVs
  rw [flaVs_ints ns];rfl
end
section
variable {X:Cx} {C:Pc} {c e e1 e2:Expr} {pos ps apos:Pos} {W:Hp} {p:PSt} {σ:St} {F H:Hp} {st:Stmt} {t u:TVQ}
def vIf (tc:Hp->TTQ) (t u:TVQ):TVQ:=fun E W p=>tc W p fun b p1=>if b=true then t E W p1 else u E W p1
theorem v_if {a b:List Stmt} {tc:Hp->TTQ} (hc:∀W,WOk C W->PT X c (UpT (C.add W) (tc W))) (ha:PSs X a (UpV C t)) (hb:PSs X b (UpV C u)):PS X (.If c a b pos) (UpV C (vIf tc t u)):=
 VS.mk (ps_if (pt_w hc) ha hb) fun W p σ F H E rs ok ht=>⟨W,ok,upT1 rs ht fun k p1 F1 H1 rs1 s1 sh q=>ite_imp (fun q=>⟨W,p1,F1,E,rs1,ok,q,vdn_le s1⟩) (fun q=>⟨W,p1,F1,E,rs1,ok,q,vdn_le s1⟩) q⟩
def vRetE (t:TVE):TVQ:=fun E W p=>t W p fun d W1 p1=>E.rt (.rd d) W1 p1
theorem v_retE {t:TVE} (he:PE X e (UpEV C t)):PS X (.Return (some e) pos) (UpV C (vRetE t)):=
 VS.mk (ps_ret he) fun W p σ F H E rs ok ht=>⟨W,p,F,_,rs,ok,ht,fun d v W1 p1 F1 H1 rs1 ok1 s1 r1 q=>⟨.rd d,W1,p1,σ,F1,rs1,ok1,s1,r1,q⟩⟩
theorem RS.hold {i:Nat} {xs:List D} {vs:List V} (rs:RS (C.add W) p σ F H) (ok:WOk C W) (hp:p[i]? = some (some (.own xs))) (hf:flaVs xs=some vs) :
  ∃b,σ[i]? = some (some (.ref b))/\W b=none/\RS (C.add (upd W b (.lst vs))) (p.set i (some (.d (.atom (.ref b))))) σ F H/\WOk C (upd W b (.lst vs)):=by
 obtain ⟨v,e1,b,us,rfl,z2,z3,z4,z5⟩:=rs.sl i _ hp
 have hu:=flaVs_rep z5 hf
 subst hu
 have nb:nbr p i=true:=by
  unfold nbr
  rw [hp]
 have rs2:=rs.setD nb (Rep.atom (.ref b))
 have es:σ.set i (some (.ref b))=σ:=by
  obtain ⟨hj,e2⟩:=List.getElem?_eq_some_iff.mp e1
  rw [<-e2,List.set_getElem_self]
 rw [es] at rs2
 have mi:Mine (p.set i (some (.d (.atom (.ref b))))) σ b:=fun j s e m ej=>by
  by_cases hj:j=i
  ·subst hj
   rw [List.getElem?_set_self (List.getElem?_eq_some_iff.mp hp).1] at e
   cases e;cases m
  ·rw [List.getElem?_set_ne (Ne.symm hj)] at e
   exact rs.apart j i s _ b hj e m hp rfl ej e1
 obtain ⟨rs3,ok3⟩:=rs2.take ok z2 z3 z4 mi
 exact ⟨b,e1,(of_add z3).1,rs3,ok3⟩
def UpNW (C:Pc) (t:Hp->TN):TE:=fun σ H Q=>∃W,WOk C W/\UpN (C.add W) (t W) σ H Q
theorem pn_w {t:Hp->TN} (h:∀W,WOk C W->PE X e (UpN (C.add W) (t W))):PE X e (UpNW C t):=fun pins s σ H Q I zq=>by obtain ⟨W,ok,ht⟩:=zq;exact h W ok pins s σ H Q I ht
def vTwo (t1 t2:Hp->TN):TVE:=fun W p Q=>t1 W p fun r1 p1=>∃xs vs,r1=.ro xs/\flaVs xs=some vs/\∀b1,W b1=none->t2 (upd W b1 (.lst vs)) p1 fun r2 p2=>∃ys us,r2=.ro ys/\flaVs ys=some us /\
 ∀b2,(upd W b1 (.lst vs)) b2=none->∀a,(upd (upd W b1 (.lst vs)) b2 (.lst us)) a=none->Q (.atom (.ref a)) (upd (upd (upd W b1 (.lst vs)) b2 (.lst us)) a (.lst [.ref b1,.ref b2])) p2
theorem e_two {t1 t2:Hp->TN} (h1:∀W,WOk C W->PE X e1 (UpN (C.add W) (t1 W))) (h2:∀W,WOk C W->PE X e2 (UpN (C.add W) (t2 W))) (hs:starEach [e1,e2] X.env=(false,eval e1 X.env)::starEach [e2] X.env:=by rfl) (hs2:starEach [e2] X.env=(false,eval e2 X.env)::starEach [] X.env:=by rfl) :
  PE X (.List [e1,e2] pos) (UpEV C (vTwo t1 t2)):=fun pins s σ H Q I zq=>by
 obtain ⟨W,p,F,R,rs,ok,ht,hq⟩:=zq
 refine pe_lst (pa_cons (pn_w h1) (pa_cons (pn_w h2) pa_nil hs2) hs) pins s σ H Q I ?_
 refine ⟨W,ok,upN1 rs ht fun r1 p1 v1 F1 H1 rs1 s1 sh1 er1 ⟨xs,vs,hr,hf,ht⟩=>?_⟩
 subst hr
 obtain ⟨b1,us1,rfl,z1,z2,z3,z4,z5⟩:=er1
 have hu:=flaVs_rep z4 hf
 subst hu
 obtain ⟨rs2,ok2⟩:=rs1.take ok z1 z2 z3 z5
 refine ⟨_,ok2,upN1 rs2 (ht b1 (of_add z2).1) fun r2 p2 v2 F2 H2 rs3 s2 sh2 er2 ⟨ys,us,hr,hf2,ht⟩=>?_⟩
 subst hr
 obtain ⟨b2,us2,rfl,y1,y2,y3,y4,y5⟩:=er2
 have hu:=flaVs_rep y4 hf2
 subst hu
 obtain ⟨rs4,ok4⟩:=rs3.take ok2 y1 y2 y3 y5
 refine ⟨show 2<=sizeLine by rw [sizeLine_eq];omega,fun a ha=>?_⟩
 obtain ⟨f1,f2,f3⟩:=rs4.free ha
 obtain ⟨rs5,ok5⟩:=(rs4.laid (o:=.lst [.ref b1,.ref b2]) ha).take ok4 f1 f2 upd_same f3
 exact hq _ _ _ _ _ _ rs5 ok5 (s1.trans s2) (.atom _) (ht b2 (of_add y2).1 a (of_add f2).1)
def vTwoO (i:Nat) (t2:Hp->TN):TVE:=fun W p Q=>(∃xs,p[i]? = some (some (.own xs)))/\t2 W p fun r2 p2=>∃xs vs ys us,p2[i]? = some (some (.own xs))/\flaVs xs=some vs/\r2=.ro ys/\flaVs ys=some us /\
 ∀b1,W b1=none->∀b2,(upd W b1 (.lst vs)) b2=none->∀a,(upd (upd W b1 (.lst vs)) b2 (.lst us)) a=none->Q (.atom (.ref a)) (upd (upd (upd W b1 (.lst vs)) b2 (.lst us)) a (.lst [.ref b1,.ref b2])) (p2.set i (some (.d (.atom (.ref b1)))))
theorem e_twoO {i:Nat} {t2:Hp->TN} (h1:∀W,WOk C W->PE X e1 (Up (C.add W) (qVar i))) (h2:∀W,WOk C W->PE X e2 (UpN (C.add W) (t2 W))) (hs:starEach [e1,e2] X.env=(false,eval e1 X.env)::starEach [e2] X.env:=by rfl) (hs2:starEach [e2] X.env=(false,eval e2 X.env)::starEach [] X.env:=by rfl) :
  PE X (.List [e1,e2] pos) (UpEV C (vTwoO i t2)):=fun pins s σ H Q I zq=>by
 obtain ⟨W,p,F,R,rs,ok,⟨⟨xs0,h0⟩,ht⟩,hq⟩:=zq
 refine pe_lst (pa_cons (pe_w h1) (pa_cons (pn_w h2) pa_nil hs2) hs) pins s σ H Q I ?_
 have hv:qVar i p (fun e p1=>e=.ow i/\p1=p):=by
  first
   | exact ⟨_,h0,rfl,rfl⟩
   | exact ⟨.own xs0,h0,rfl,rfl⟩
   | (unfold qVar;rw [h0];exact ⟨rfl,rfl⟩)
 refine ⟨W,ok,up1 rs hv fun ev p1 v1 F1 H1 rs1 s1 sh1 er1 ⟨he,hp1⟩=>?_⟩
 subst he
 subst hp1
 refine ⟨_,ok,upN1 rs1 ht fun r2 p2 v2 F2 H2 rs3 s2 sh2 er2 ⟨xs,vs,ys,us,hp2,hf,hr,hf2,ht⟩=>?_⟩
 subst hr
 obtain ⟨b2,us2,rfl,y1,y2,y3,y4,y5⟩:=er2
 have hu:=flaVs_rep y4 hf2
 subst hu
 obtain ⟨b1,g1,g2,rs4,ok4⟩:=rs3.hold ok hp2 hf
 have ev1:v1=.ref b1:=by
  have:=er1.2
  rw [g1] at this
  cases this;rfl
 subst ev1
 have ne:b2≠b1:=fun z=>y5 i _ hp2 rfl (by rw [g1,z])
 have mi:Mine (p2.set i (some (.d (.atom (.ref b1))))) σ b2:=fun j s e m ej=>by
  by_cases hj:j=i
  ·subst hj
   rw [List.getElem?_set_self (List.getElem?_eq_some_iff.mp hp2).1] at e
   cases e;cases m
  ·rw [List.getElem?_set_ne (Ne.symm hj)] at e
   exact y5 j s e m ej
 have h02:(C.add (upd W b1 (.lst vs))).H0 b2=none:=by
  rw [add_none (by rw [upd_ne ne];exact (of_add y2).1)]
  exact (of_add y2).2
 obtain ⟨rs5,ok5⟩:=rs4.take ok4 y1 h02 y3 mi
 refine ⟨show 2<=sizeLine by rw [sizeLine_eq];omega,fun a ha=>?_⟩
 obtain ⟨f1,f2,f3⟩:=rs5.free ha
 obtain ⟨rs6,ok6⟩:=(rs5.laid (o:=.lst [.ref b1,.ref b2]) ha).take ok5 f1 f2 upd_same f3
 exact hq _ _ _ _ _ _ rs6 ok6 (s1.trans s2) (.atom _) (ht b1 g2 b2 (of_add h02).1 a (of_add f2).1)
def qReprV (W:Hp) (ta:TAQ):TQ:=fun p Q=>ta p fun es p1=>∃ev x b1 b2 xs vs ys us,es=[ev]/\lk p1 ev=.atom (.ref x)/\W x=some (.lst [.ref b1,.ref b2])/\W b1=some (.lst vs)/\W b2=some (.lst us)/\flaVs xs=some vs/\flaVs ys=some us/\ShowOk [.lst xs,.lst ys]/\Q (.fz (.str (shownL [.lst xs,.lst ys]))) p1
theorem cb_reprV {tas:TAQ} (ok:WOk C W) (hK:X.K=C.K) (hgd:X.A.guards=some []) (hu:X.A.units+64<cLine) (hg:Gl X "repr") (hm:X.mg "repr"=none) (ha:PA X [e] (UpA (C.add W) tas)) (he:starEach [e] X.env=(false,eval e X.env)::starEach [] X.env:=by rfl):PE X (.Call (.Name "repr" ps) [e] [] pos) (Up (C.add W) (qReprV W tas)):=
 QE.mk (pe_callB (call_reprK hK hgd hu) hg hm (by kernel_rfl) ha (he:=he)) fun p σ F H R rs ht=>upA1 rs ht fun es1 p1 vs1 F1 H1 rs1 s1 sh er1 zq=>by
  obtain ⟨ev,x,b1,b2,xs,vs,ys,us,h1,h2,h3,h4,h5,h6,h7,so,q⟩:=zq
  obtain ⟨v,rfl,er⟩:=evs1 er1 h1
  exact ⟨x,_,_,W,by rw [ev_atom er h2],.of (rs1.wH ok h3),fun a o h=>rs1.wH ok h,.cons (.lst h4 (flaVs_ok h6)) (.cons (.lst h5 (flaVs_ok h7)) .nil),so,fin_ev rs1 s1 sh (.str _) q⟩
def nSlW (W:Hp) (ta:TQ) (tl th:TOQ):TN:=fun p Q=>ta p fun ev p1=>tl p1 fun lo p2=>th p2 fun hi p3=>∃x xs vs,lk p3 ev=.atom (.ref x)/\W x=some (.lst vs)/\flaVs xs=some vs/\Q (.ro (cut xs lo hi)) p3
theorem n_slW {lo hi:Option Expr} {ta:TQ} {tl th:TOQ} {p2:Pos} (ok:WOk C W) (hK:X.K=C.K) (he:PE X e (Up (C.add W) ta)) (hl:PO X lo (UpO (C.add W) tl)) (hu:PO X hi (UpO (C.add W) th)):PE X (.Subscript e (.Slice lo hi none p2) pos) (UpN (C.add W) (nSlW W ta tl th)):=
 QN.mk (pe_slice (sl_listK hK) he hl hu) fun p σ F H R rs ht=>up1 rs ht fun e1 p1 v1 F1 H1 rs1 s1 sh1 er1 q1=>by
  refine ⟨p1,F1,_,rs1,q1,fun lo H2 ⟨p2,F2,rs2,s2,sh2,q2⟩=>?_⟩
  refine ⟨p2,F2,_,rs2,q2,fun hi H3 ⟨p3,F3,rs3,s3,sh3,x,xs,vs,h1,h2,h3,q3⟩=>?_⟩
  rw [ev_atom (er1.mono (s2.trans s3) (sh2.trans sh3)) h1]
  exact ⟨x,vs,rfl,.of (rs3.wH ok h2),fun q hq=>fin_new rs3 (s1.trans (s2.trans s3)) (sh1.trans (sh2.trans sh3)) hq ((flaVs_ok h3).cut lo hi) q3⟩
end
end L2
set_option maxHeartbeats 1000000
namespace L2
open PySem PySem.Spec PyProof.Rows
section
variable {X:Cx} {C:Pc} {o:Expr} {pos apos:Pos}
def vRev (to:Hp->TQ):TVE:=fun W p Q=>to W p fun eo p1=>∃x vs,lk p1 eo=.atom (.ref x)/\W x=some (.lst vs)/\Q .non (upd W x (.lst vs.reverse)) p1
theorem v_rev {to:Hp->TQ} (hK:X.K=C.K) (ho:∀W,WOk C W->PE X o (Up (C.add W) (to W))) (hbase:attributeBase o "reverse" X.env (eval o X.env)=eval o X.env:=by rfl) (hline:(apos.endLine == pos.line)=true:=by rfl):PE X (.Call (.Attribute o "reverse" apos) [] [] pos) (UpEV C (vRev to)):=fun pins s σ H Q I zq=>by
 obtain ⟨W,p,F,R,rs,ok,ht,hq⟩:=zq
 refine pe_bm0 PySem.F.plainAttrs_list PySem.F.slot_list_reverse PySem.F.type_list_reverse mt_reverse (pe_w ho) hbase hline pins s σ H Q I ?_
 rw [hK]
 refine ⟨W,ok,up1 rs ht fun e1 p1 v1 F1 H1 rs1 s1 sh er1 ⟨x,vs,hx,hw,q⟩=>?_⟩
 rw [ev_atom er1 hx]
 obtain ⟨rs3,ok3⟩:=rs1.wput (us:=vs.reverse) ok hw
 exact ⟨.inl ⟨rfl,vs,.of (rs1.wH ok hw)⟩,x,vs,rfl,rfl,rs1.wH ok hw,hq .non .non _ p1 F1 _ rs3 ok3 s1 .non q⟩
end
section
theorem excMatches_own3 {M:Model} {A:Around} {E:Value->Shared->Prop} {K:PySem.W.Frag} {mg:Str->Option Value} {x1 x2 x3:Str} {Ca D1 D2 D3 e t:Addr} {oe:Obj} {h:Heap} {g:Array GenState} {d:Drawn} {tk:Nat} {os:OsState} {Q:Bool->Shared->Prop} {k1 k2 k3:Bool} (I:K.In h)
  (c1:XCl K mg x1 D1) (c2:XCl K mg x2 D2) (c3:XCl K mg x3 D3) (s1:PySem.W.subIn K (.ref Ca) (.ref D1)=some k1) (s2:PySem.W.subIn K (.ref Ca) (.ref D2)=some k2) (s3:PySem.W.subIn K (.ref Ca) (.ref D3)=some k3) (hb:(k1 || k2 || k3)=true)
  (ht:IsTup h t #[.ref D1,.ref D2,.ref D3]) (he:h.get? e=some oe) (hcls:oe.cls=.ref Ca) (hq:Q true ⟨h,g,d,tk,os⟩):wpAny M A (excMatches (.ref e) (.ref t)) Q E ⟨h,g,d,tk,os⟩:=by
 obtain ⟨o,ho,hc,n,hd⟩:=ht
 obtain ⟨m1,_,_,_,_,_,_,_,_,_,_,_,_,_,_,_,_,hD1,_,_,T1⟩:=(c1.own I).obj
 obtain ⟨m2,_,_,_,_,_,_,_,_,_,_,_,_,_,_,_,_,hD2,_,_,T2⟩:=(c2.own I).obj
 obtain ⟨m3,_,_,_,_,_,_,_,_,_,_,_,_,_,_,_,_,hD3,_,_,T3⟩:=(c3.own I).obj
 have hB1:(Value.ref D1::m1).contains (.type "BaseException")=true:=by rw [List.contains_cons,T1.hasType F.excBase_ValueError.hasBase,Bool.or_true]
 have hB2:(Value.ref D2::m2).contains (.type "BaseException")=true:=by rw [List.contains_cons,T2.hasType F.excBase_ValueError.hasBase,Bool.or_true]
 have hB3:(Value.ref D3::m3).contains (.type "BaseException")=true:=by rw [List.contains_cons,T3.hasType F.excBase_ValueError.hasBase,Bool.or_true]
 have ft:=tc_notTuple
 have l1:=PySem.W.looks_subIn (M:=M) I s1
 have l2:=PySem.W.looks_subIn (M:=M) I s2
 have l3:=PySem.W.looks_subIn (M:=M) I s3
 unfold excMatches
 refine wpAny_bind (wpAny_isInstance ⟨o,ho,hc⟩ isSubtype_tuple_tuple ?_)
 dsimp only
 rw [if_pos rfl]
 refine wpAny_bind (wpAny_seqItems ho hd ?_)
 dsimp only [Option.getD_some,Option.getD]
 repeat (first|(with_reducible refine wpAny_loadPart_at he ?_;rw [hcls])|with_reducible refine wpAny_loadPart_at hD1 ?_|with_reducible refine wpAny_loadPart_at hD2 ?_|with_reducible refine wpAny_loadPart_at hD3 ?_|(with_reducible refine wpAny_isSubtype_exc hD1 ?_;rw [hB1])|(with_reducible refine wpAny_isSubtype_exc hD2 ?_;rw [hB2])|(with_reducible refine wpAny_isSubtype_exc hD3 ?_;rw [hB3])|wp_step)
 refine l1 A _ E ⟨h,g,d,tk,os⟩ (fun _ _ z=>z) ?_
 cases k1 with
 | true=>wp_walk;exact hq
 | false=>
  wp_walk
  refine l2 A _ E ⟨h,g,d,tk,os⟩ (fun _ _ z=>z) ?_
  cases k2 with
  | true=>wp_walk;exact hq
  | false=>
   wp_walk
   refine l3 A _ E ⟨h,g,d,tk,os⟩ (fun _ _ z=>z) ?_
   cases k3 with
   | true=>wp_walk;exact hq
   | false=>cases hb
end
section
variable {X:Cx} {pins:List (Addr × Obj)} {σ:St} {H:Hp} {s:Shared} {E:Value->Shared->Prop} {A:Around}
theorem try_ok3 {body suite:List Stmt} {b₀:Stmt} {x1 x2 x3:Str} {C1 C2 C3:Addr} {n1 n2 n3 np hpos pos:Pos} {tk:Nat} {D:Ends} {G:Addr->St->Hp->Prop} (c1:XCl X.K X.mg x1 C1) (c2:XCl X.K X.mg x2 C2) (c3:XCl X.K X.mg x3 C3)
  (hs:X.stack=X.env::X.outer) (hL:X.env.frame=some X.env.locals) (hx:X.ex=[]) (I:Inv X pins σ H s)
  (hb:∀E:Value->Shared->Prop,LnkG (X.held pins E) G->∃tb,PSs (X.held pins E) body tb/\tb D σ H)
  (hG:∀(Ca:Addr) (σ':St) (H':Hp),G Ca σ' H'->(∃k1 k2 k3,PySem.W.subIn X.K (.ref Ca) (.ref C1)=some k1/\PySem.W.subIn X.K (.ref Ca) (.ref C2)=some k2/\PySem.W.subIn X.K (.ref Ca) (.ref C3)=some k3/\(k1 || k2 || k3)=true)/\∀a:Addr,∃th,PSs (X.suite pins (X.A.mark (some (.ref a)))) (b₀::suite) th/\th D σ' H')
  (hg1:Gl X x1) (hdb1:(x1 == ("__debug__":Str))=false) (hg2:Gl X x2) (hdb2:(x2 == ("__debug__":Str))=false) (hg3:Gl X x3) (hdb3:(x3 == ("__debug__":Str))=false):wpAny (model X.prog X.w) X.A (exec (.Try body [.ExceptHandler (some (.Tuple [.Name x1 n1,.Name x2 n2,.Name x3 n3] tk np)) none (b₀::suite) hpos] [] [] pos) X.env) (SP X pins D) X.xe s:=by
 refine wpAny_Try_except ?_
 have lk:LnkG (X.held pins (fun e s₁=>wpAny (model X.prog X.w) X.A (noteFrame e X.env) (fun _ s₂=>wpAny (model X.prog X.w) X.A (setFlight e none) (fun _ s₃=>wpAny (model X.prog X.w) X.A (handleBy e X.env [.ExceptHandler (some (.Tuple [.Name x1 n1,.Name x2 n2,.Name x3 n3] tk np)) none (b₀::suite) hpos]) (SP X pins D) X.xe s₃) X.xe s₂) X.xe s₁)) G:=by
  intro pins1 σ1 H1 s1 H2 s2 a Ca I1 I2 tr g0
  have g:=hG Ca σ1 H2 g0
  have J1:=I1.less.unheld
  have J2:=I2.less.unheld
  obtain ⟨t0,t1,oe,vs,T,oT,ts,a1,a2,a3,a4,a5,a6,a7,a8,a9,a10⟩:=tr
  have far:∀{σ':St} {H':Hp} {s':Shared},Inv X pins σ' H' s'->∀b,s'.heap.get? b=none->X.s₀.heap.get? b=none/\H' b=none/\b≠X.env.locals/\(∀y c,X.env.cells.lookup y=some c->c≠b)/\∀p∈X.pn++pins,p.1≠b:=fun {σ' H' s'} J b z=>by
   refine ⟨?_,?_,fun y=>?_,fun y c e y'=>?_,fun p hp y=>?_⟩
   ·cases q:X.s₀.heap.get? b with
    | none=>rfl
    | some o=>obtain ⟨_,e⟩:=J.base.there b o q (by show b ∉ X.ex;rw [hx];intro z;cases z);rw [z] at e;cases e
   ·cases q:H' b with
    | none=>rfl
    | some o=>obtain ⟨_,e⟩:=(J.hok _ _ q).ex;rw [z] at e;cases e
   ·obtain ⟨m,⟨o,_,_,ho,_⟩,_⟩:=J.loc
    rw [<-show b=_ from y,z] at ho;cases ho
   ·obtain ⟨v,o,ho,_⟩:=J.cell y c e
    rw [y',z] at ho;cases ho
   ·have:=(J.pin p hp).1
    rw [y,z] at this;cases this
  have fa:=far J1 a t1
  have fT:=far J1 T a6
  show wpAny (model X.prog X.w) X.A (noteFrame (.ref a) X.env) _ X.xe s2
  refine note_next (base:=X.base) (outer:=X.outer) (by rw [<-hs];exact I.ok.frames) (by rw [<-hs];exact J2.stack) hL a1 a3 a4 a5 a8 a9 a10 fun h3 n3 ⟨oe',vs',T',oT',ts',fl,b1,b2,b3,b4,b5,b6,b7,b8,b9⟩=>?_
  have J3:=inv_note (t':=s2.toks) hs hL hx J2 (by rw [hs];exact n3) (fun b hb=>by
   rcases List.mem_cons.mp hb with rfl|hb
   ·exact ⟨fa.1,t0,fa.2.2⟩
   ·rw [List.mem_singleton.mp hb];exact ⟨fT.1,a7,fT.2.2⟩)
  have fT':X.s₀.heap.get? T'=none/\H2 T'=none/\T'≠X.env.locals/\(∀y c,X.env.cells.lookup y=some c->c≠T')/\∀p∈X.pn++pins,p.1≠T':=by
   rcases b6 with z|z
   ·exact far J2 T' z
   ·rw [z];exact ⟨fT.1,a7,fT.2.2⟩
  have nf3:T' ∉ frs X.stack:=fun z=>by
   obtain ⟨_,o,q,nf⟩:=J3.stack.mem z
   rw [show h3.get? T'=some oT' from b7] at q;cases q
   exact nf _ b8
  refine flight_none (s:={ s2 with heap:=h3 }) b1 b3 b4 b7 b8 b9 fun h4 k4 ⟨oT4,ts4,c1',c2',c3'⟩=>?_
  have J4:=inv_note (t':=s2.toks) hs hL hx J3 (note_one k4 nf3) (fun b hb=>by rw [List.mem_singleton.mp hb];exact fT')
  have e4:h4.get? a=some oe':=k4 a oe' b1 (Ne.symm b5)
  refine wpAny_handleBy_cons (codeAny_handlers_test ?_) (by intro q;cases q)
  have K4:=J4.suite (A:=X.A.mark (some (.ref a))) rfl
  obtain ⟨⟨k1,k2,k3,g1,g2,g3,gk⟩,gth⟩:=g
  refine wpAny_Tuple_spliced ?_
  refine Calls.spliced_cons (ld_glob (X:=X.suite pins (X.A.mark (some (.ref a)))) K4 hg1 c1.m ?_ hdb1)
  refine Calls.spliced_cons (ld_glob (X:=X.suite pins (X.A.mark (some (.ref a)))) K4 hg2 c2.m ?_ hdb2)
  refine Calls.spliced_cons (ld_glob (X:=X.suite pins (X.A.mark (some (.ref a)))) K4 hg3 c3.m ?_ hdb3)
  refine Calls.spliced_nil ?_
  refine ⟨show 3<=sizeLine by rw [sizeLine_eq];omega,?_⟩
  obtain ⟨h6,hh6⟩:∃h6,h6=h4.push { cls:=.type "tuple",data:=.seq #[.ref C1,.ref C2,.ref C3] }:=⟨_,rfl⟩
  have up:∀b o,h4.get? b=some o->h6.get? b=some o:=fun b o q=>by rw [hh6];exact Heap.get?_push_of_some _ q
  have tup:IsTup h6 h4.objs.size #[.ref C1,.ref C2,.ref C3]:=by rw [hh6];exact ⟨_,Heap.get?_push_size _ rfl,rfl,_,rfl⟩
  have J6:Inv X pins σ1 H2 { s2 with heap:=h6 }:=J4.kept (t':=s2.toks) up
  have K6:=J6.suite (A:=X.A.mark (some (.ref a))) rfl
  show wpAny _ _ (excMatches (.ref a) (.ref h4.objs.size)) _ _ { s2 with heap:=h4.push _ }
  rw [<-hh6]
  refine excMatches_own3 (K:=X.K) K6.kIn c1 c2 c3 g1 g2 g3 gk tup (up _ _ e4) (by rw [b2,a2]) ?_
  refine codeAny_handlers_suite ?_
  refine flight_none (s:={ s2 with heap:=h6 }) (up _ _ e4) b3 b4 (up _ _ c1') c2' c3' fun h5 k5 ⟨oT5,ts5,d1,d2,d3⟩=>?_
  have nf6:T' ∉ frs X.stack:=nf3
  have J5:=inv_note (t':=s2.toks) hs hL hx J6 (note_one k5 nf6) (fun b hb=>by rw [List.mem_singleton.mp hb];exact fT')
  have K5:=J5.suite (A:=X.A.mark (some (.ref a))) rfl
  obtain ⟨th,hh,ht⟩:=gth a
  refine wpAny_mono (hh [] _ _ _ D K5 ht) (fun f s8 q=>?_) fun _ _ z=>z.elim
  cases f with
  | next=>
   obtain ⟨σ9,H9,K9,q9⟩:=q
   exact ⟨σ9,H9,K9.unsuite I.ok.hd I.ok.frames,q9⟩
  | brk=>
   obtain ⟨σ9,H9,K9,q9⟩:=q
   exact ⟨σ9,H9,K9.unsuite I.ok.hd I.ok.frames,q9⟩
  | cont=>
   obtain ⟨σ9,H9,K9,q9⟩:=q
   exact ⟨σ9,H9,K9.unsuite I.ok.hd I.ok.frames,q9⟩
  | ret u=>
   obtain ⟨v,σ9,H9,K9,r,q9⟩:=q
   exact ⟨v,σ9,H9,K9.unsuite I.ok.hd I.ok.frames,r,q9⟩
 obtain ⟨tb,hb',hq⟩:=hb _ lk
 refine wpAny_mono (hb' [] s σ H D I.held hq) (fun f s1 q=>?_) fun _ _ z=>z
 cases f with
 | next=>
  obtain ⟨σ',H',I',q⟩:=q
  exact wpAny_execs_nil ⟨σ',H',I'.unheld,q⟩
 | brk=>obtain ⟨σ',H',I',q⟩:=q;exact ⟨σ',H',I'.unheld,q⟩
 | cont=>obtain ⟨σ',H',I',q⟩:=q;exact ⟨σ',H',I'.unheld,q⟩
 | ret u=>obtain ⟨v,σ',H',I',r,q⟩:=q;exact ⟨v,σ',H',I'.unheld,r,q⟩
end
section
variable {X:Cx} {C:Pc} {pos np n1 n2 n3 hpos:Pos} {x1 x2 x3:Str} {tk:Nat}
def qTry3 (K:PySem.W.Frag) (D1 D2 D3:Addr) (tb:(Addr->PSt->Prop)->TSQ) (th:TSQ):TSQ:=fun E p=>
 tb (fun Cl p1=>(∃k1 k2 k3,PySem.W.subIn K (.ref Cl) (.ref D1)=some k1/\PySem.W.subIn K (.ref Cl) (.ref D2)=some k2/\PySem.W.subIn K (.ref Cl) (.ref D3)=some k3/\(k1 || k2 || k3)=true)/\th E p1) E p
theorem s_O {body suite:List Stmt} {b₀:Stmt} {D1 D2 D3:Addr} {tb:(Addr->PSt->Prop)->TSQ} {th:TSQ} (c1:XCl X.K X.mg x1 D1) (c2:XCl X.K X.mg x2 D2) (c3:XCl X.K X.mg x3 D3)
  (hb:∀(F0:Hp) (pins:List (Addr × Obj)) (E:Value->Shared->Prop) (XE:Addr->PSt->Prop),LnkG (X.held pins E) (GX (C.at F0) XE)->PSs (X.held pins E) body (UpS (C.at F0) (tb XE)))
  (hh:∀(F0:Hp) (pins:List (Addr × Obj)) (A:Around),PSs (X.suite pins A) (b₀::suite) (UpS (C.at F0) th))
  (hg1:Gl X x1:=by rfl) (hdb1:(x1 == ("__debug__":Str))=false:=by decide) (hg2:Gl X x2:=by rfl) (hdb2:(x2 == ("__debug__":Str))=false:=by decide) (hg3:Gl X x3:=by rfl) (hdb3:(x3 == ("__debug__":Str))=false:=by decide)
  (hs:X.stack=X.env::X.outer:=by rfl) (hL:X.env.frame=some X.env.locals:=by rfl) (hx:X.ex=[]:=by rfl) :
  PS X (.Try body [.ExceptHandler (some (.Tuple [.Name x1 n1,.Name x2 n2,.Name x3 n3] tk np)) none (b₀::suite) hpos] [] [] pos) (UpS C (qTry3 X.K D1 D2 D3 tb th)):=by
 intro pins s σ H De I ⟨p,F,E,rs,ht,l⟩
 refine thn (try_ok3 (D:=E.dn C F) (G:=GX (C.at F) fun Cl p1=>(∃k1 k2 k3,PySem.W.subIn X.K (.ref Cl) (.ref D1)=some k1/\PySem.W.subIn X.K (.ref Cl) (.ref D2)=some k2/\PySem.W.subIn X.K (.ref Cl) (.ref D3)=some k3/\(k1 || k2 || k3)=true)/\th E p1) c1 c2 c3 hs hL hx I (fun E' lk=>⟨_,hb F pins E' _ lk,p,F,E,rs.at,ht,?_⟩) (fun Ca σ' H' ⟨p',F',rs',hsub,hth⟩=>⟨hsub,fun a=>⟨_,hh F pins _,p',F',E,rs',hth,?_⟩⟩) hg1 hdb1 hg2 hdb2 hg3 hdb3) fun _ _ q=>q.le l
 ·exact ⟨fun σ1 H1 zq=>by obtain ⟨p1,F1,r1,s1,q1⟩:=zq;exact ⟨p1,F1,(rs.unat r1).1,s1,q1⟩,fun v H1 zq=>by obtain ⟨r,p1,σ1,F1,r1,s1,rr,q1⟩:=zq;exact ⟨r,p1,σ1,F1,(rs.unat r1).1,s1,by cases r<;>exact rr,q1⟩,fun σ1 H1 zq=>by obtain ⟨p1,F1,r1,s1,q1⟩:=zq;exact ⟨p1,F1,(rs.unat r1).1,s1,q1⟩,fun σ1 H1 zq=>by obtain ⟨p1,F1,r1,s1,q1⟩:=zq;exact ⟨p1,F1,(rs.unat r1).1,s1,q1⟩⟩
 ·have sF:∀{F1:Hp},Same F' F1->Same F F1:=fun {F1} z=>rs'.ext.trans z
  exact ⟨fun σ1 H1 zq=>by obtain ⟨p1,F1,r1,s1,q1⟩:=zq;exact ⟨p1,F1,(rs.unat r1).1,sF s1,q1⟩,fun v H1 zq=>by obtain ⟨r,p1,σ1,F1,r1,s1,rr,q1⟩:=zq;exact ⟨r,p1,σ1,F1,(rs.unat r1).1,sF s1,by cases r<;>exact rr,q1⟩,fun σ1 H1 zq=>by obtain ⟨p1,F1,r1,s1,q1⟩:=zq;exact ⟨p1,F1,(rs.unat r1).1,sF s1,q1⟩,fun σ1 H1 zq=>by obtain ⟨p1,F1,r1,s1,q1⟩:=zq;exact ⟨p1,F1,(rs.unat r1).1,sF s1,q1⟩⟩
end
end L2
namespace M
def val (b:Int) (ds:List Int):Int:=ds.foldl (fun n d=>n * b+d) 0
theorem foldl_val (b:Int):∀(ds:List Int) (a:Int),ds.foldl (fun n d=>n * b+d) a=a * b ^ ds.length+val b ds
 | [],a=>by simp [val]
 | d::r,a=>by
  have h1:=foldl_val b r (a * b+d)
  have h2:=foldl_val b r (0 * b+d)
  show r.foldl _ (a * b+d)=a * b ^ (r.length+1)+r.foldl _ (0 * b+d)
  rw [h1,h2,Int.pow_succ]
  generalize b ^ r.length=p
  generalize val b r=v
  rw [Int.add_mul,Int.add_mul,Int.mul_assoc a b p,Int.mul_comm b p]
  omega
theorem val_cons (b d:Int) (r:List Int):val b (d::r)=d * b ^ r.length+val b r:=by
 show r.foldl _ (0 * b+d)=_
 rw [foldl_val]
 simp
theorem val_snoc (b d:Int) (xs:List Int):val b (xs++[d])=val b xs * b+d:=by
 unfold val
 rw [List.foldl_append]
 rfl
def terms (b:Int):List Int->List Int
 | []=>[]
 | d::r=>d * b ^ r.length::terms b r
def le (b:Int):List Int->Int
 | []=>0
 | d::r=>d+b * le b r
theorem val_rev (b:Int):∀rs:List Int,val b rs.reverse=le b rs
 | []=>rfl
 | d::r=>by
  rw [List.reverse_cons,val_snoc,val_rev b r]
  show le b r * b+d=d+b * le b r
  rw [Int.mul_comm];omega
theorem le_snoc (b x:Int):∀rs:List Int,le b (rs++[x])=le b rs+x * b ^ rs.length
 | []=>by simp [le]
 | d::r=>by
  show d+b * le b (r++[x])=d+b * le b r+x * b ^ (r.length+1)
  rw [le_snoc b x r,Int.pow_succ,Int.mul_add]
  generalize b ^ r.length=p
  have:b * (x * p)=x * (p * b):=by rw [Int.mul_comm p b,<-Int.mul_assoc,<-Int.mul_assoc,Int.mul_comm b x]
  omega
theorem pow_pos' {b:Int} (h:0<b) (n:Nat):0<b ^ n:=Int.pow_pos h
theorem pow_ge_two {b:Int} (h:2<=b):∀n:Nat,(2:Int) ^ n<=b ^ n
 | 0=>by simp
 | n+1=>by
  rw [Int.pow_succ,Int.pow_succ]
  have q:=pow_ge_two h n
  have p:=pow_pos' (show (0:Int)<2 by decide) n
  exact Int.mul_le_mul q h (by decide) (by omega)
theorem pow_mono2 {m n:Nat} (h:m<=n):(2:Int) ^ m<=2 ^ n:=by
 obtain ⟨k,rfl⟩:=Nat.exists_eq_add_of_le h
 rw [Int.pow_add]
 have p:=pow_pos' (show (0:Int)<2 by decide) m
 have q:=pow_pos' (show (0:Int)<2 by decide) k
 have:(2:Int) ^ m * 1<=2 ^ m * 2 ^ k:=Int.mul_le_mul_of_nonneg_left (by omega) (by omega)
 omega
structure Digs (b n:Int) (ds:List Int):Prop where
 rng:∀d∈ds,0<=d/\d<b
 val:val b ds=n
 ne:ds≠[]
 hd:ds.length=1\/ds.head?≠some 0
theorem le_nn {b:Int} (h:0<=b):∀{rs:List Int},(∀d∈rs,0<=d/\d<b)->0<=le b rs
 | [],_=>Int.le_refl _
 | d::r,hr=>by
  have h1:=(hr d List.mem_cons_self).1
  have h2:=le_nn h (rs:=r) fun x hx=>hr x (List.mem_cons_of_mem _ hx)
  have:=Int.mul_nonneg h h2
  show 0<=d+b * le b r
  omega
structure Go2 (b n:Int) (rs:List Int) (left:Int):Prop where
 b2:2<=b
 rng:∀d∈rs,0<=d/\d<b
 l0:0<=left
 sum:n=le b rs+left * b ^ rs.length
 pos:rs=[]\/0<left
theorem Go2.start {b n:Int} (hb:2<=b) (hn:0<=n):Go2 b n [] n:=⟨hb,fun d hd=>absurd hd List.not_mem_nil,hn,by simp [le],.inl rfl⟩
theorem Go2.turn {b n left:Int} {rs:List Int} (g:Go2 b n rs left) (h:b<=left):Go2 b n (rs++[left % b]) (left / b) where
 b2:=g.b2
 rng:=fun d hd=>by
  have hb:=g.b2
  rcases List.mem_append.mp hd with hd|hd
  ·exact g.rng d hd
  ·rw [List.mem_singleton] at hd
   subst hd
   exact ⟨Int.emod_nonneg _ (by omega),Int.emod_lt_of_pos _ (by omega)⟩
 l0:=Int.ediv_nonneg g.l0 (by have:=g.b2;omega)
 sum:=by
  have h1:=g.sum
  have h2:=Int.mul_ediv_add_emod left b
  rw [le_snoc,List.length_append,List.length_singleton,Int.pow_succ,h1]
  generalize b ^ rs.length=p at *
  have e:left * p=(left % b) * p+(left / b) * (p * b):=by
   have:left * p=(b * (left / b)+left % b) * p:=by rw [h2]
   rw [this,Int.add_mul,Int.mul_comm p b,<-Int.mul_assoc,Int.mul_comm (left / b) b]
   omega
  omega
 pos:=.inr (by
  have hb:=g.b2
  have:=Int.ediv_le_ediv (show 0<b by omega) h
  rw [Int.ediv_self (by omega)] at this
  omega)
theorem Go2.len {b n left:Int} {rs:List Int} (g:Go2 b n rs left) (hn:n<2 ^ 4000):rs.length<4000:=by
 rcases g.pos with z|z
 ·rw [z];decide
 have h1:=g.sum
 have hb:=g.b2
 have h2:=le_nn (by omega) g.rng
 have p:=pow_pos' (show 0<b by omega) rs.length
 have h3:1 * b ^ rs.length<=left * b ^ rs.length:=Int.mul_le_mul_of_nonneg_right (by omega) (by omega)
 have h4:=pow_ge_two hb rs.length
 by_cases z:rs.length<4000
 ·exact z
 ·have:=pow_mono2 (show 4000<=rs.length by omega)
  generalize (2:Int) ^ 4000=q at *
  omega
theorem Go2.done {b n left:Int} {rs:List Int} (g:Go2 b n rs left) (h:left<b):Digs b n (rs++[left]).reverse where
 rng:=fun d hd=>by
  rcases List.mem_append.mp (List.mem_reverse.mp hd) with hd|hd
  ·exact g.rng d hd
  ·rw [List.mem_singleton] at hd;subst hd;exact ⟨g.l0,h⟩
 val:=by rw [val_rev,le_snoc];exact g.sum.symm
 ne:=by simp
 hd:=by
  rcases g.pos with z|z
  ·exact .inl (by rw [z];rfl)
  ·refine .inr ?_
   rw [List.reverse_append]
   simp
   omega
theorem val_mod {b:Int} {xs:List Int} {d:Int} (h:0<=d/\d<b):val b (xs++[d]) % b=d/\val b (xs++[d]) / b=val b xs:=by
 rw [val_snoc]
 have hb:0<b:=by omega
 constructor
 ·rw [Int.add_comm,Int.add_mul_emod_self_right,Int.emod_eq_of_lt h.1 h.2]
 ·rw [Int.add_comm,Int.add_mul_ediv_right _ _ (by omega),Int.ediv_eq_zero_of_lt h.1 h.2,Int.zero_add]
theorem val_nn {b:Int} (hb:0<=b) {xs:List Int} (h:∀d∈xs,0<=d/\d<b):0<=val b xs:=by
 have:=le_nn hb (rs:=xs.reverse) fun d hd=>h d (List.mem_reverse.mp hd)
 rw [<-val_rev,List.reverse_reverse] at this
 exact this
theorem Digs.uniq {b:Int} (hb:2<=b):∀(k:Nat) {n:Int} {xs ys:List Int},xs.length=k->Digs b n xs->Digs b n ys->xs=ys:=by
 intro k
 induction k with
 | zero=>intro n xs ys hk hx _;exact absurd (List.length_eq_zero_iff.mp hk) hx.ne
 | succ k ih=>
  intro n xs ys hk hx hy
  have ex:=List.dropLast_concat_getLast hx.ne
  have ey:=List.dropLast_concat_getLast hy.ne
  generalize xs.dropLast=us at ex
  generalize ys.dropLast=vs at ey
  generalize xs.getLast hx.ne=p at ex
  generalize ys.getLast hy.ne=q at ey
  subst ex ey
  have hp:=hx.rng p (by simp)
  have hq:=hy.rng q (by simp)
  have m1:=val_mod (xs:=us) hp
  have m2:=val_mod (xs:=vs) hq
  have e1:=hx.val
  have e2:=hy.val
  rw [e1] at m1
  rw [e2] at m2
  have epq:p=q:=m1.1.symm.trans m2.1
  have ev:M.val b us=M.val b vs:=m1.2.symm.trans m2.2
  subst epq
  have fst:∀(ws:List Int),(ws++[p]).length=1\/(ws++[p]).head?≠some 0->(∀d∈ws,0<=d/\d<b)->ws≠[]->0<M.val b ws:=by
   intro ws h hr hw
   match ws,hw with
   | w::r,_=>
    have h0:w≠0:=by
     rcases h with z|z
     ·simp at z
     ·simpa using z
    have hw':=hr w List.mem_cons_self
    rw [val_cons]
    have p1:=pow_pos' (show 0<b by omega) r.length
    have p2:=val_nn (show 0<=b by omega) (xs:=r) fun d hd=>hr d (List.mem_cons_of_mem _ hd)
    have p3:1 * b ^ r.length<=w * b ^ r.length:=Int.mul_le_mul_of_nonneg_right (by omega) (by omega)
    omega
  have ru:∀d∈us,0<=d/\d<b:=fun d hd=>hx.rng d (List.mem_append_left _ hd)
  have rv:∀d∈vs,0<=d/\d<b:=fun d hd=>hy.rng d (List.mem_append_left _ hd)
  by_cases hu:us=[]
  ·by_cases hv:vs=[]
   ·rw [hu,hv]
   ·have:=fst vs hy.hd rv hv
    rw [hu] at ev
    have z:M.val b []=0:=rfl
    omega
  ·by_cases hv:vs=[]
   ·have:=fst us hx.hd ru hu
    rw [hv] at ev
    have z:M.val b []=0:=rfl
    omega
   ·have lu:us.length=k:=by rw [List.length_append,List.length_singleton] at hk;omega
    have hd':∀(ws:List Int),ws≠[]->((ws++[p]).length=1\/(ws++[p]).head?≠some 0)->ws.length=1\/ws.head?≠some 0:=by
     intro ws hw h
     match ws,hw with
     | w::r,_=>
      refine .inr ?_
      rcases h with z|z
      ·simp at z
      ·simpa using z
    rw [ih lu ⟨ru,rfl,hu,hd' us hu hx.hd⟩ ⟨rv,ev.symm,hv,hd' vs hv hy.hd⟩]
theorem Digs.pos {b n:Int} {ds:List Int} (d:Digs b n ds) (hn:0<n):ds.head?≠some 0:=by
 rcases d.hd with z|z
 ·match ds,z,d with
  | [x],_,d=>
   have h:(0:Int) * b+x=n:=d.val
   intro e
   have:x=0:=by simpa using e
   omega
 ·exact z
def fgN (b n:Nat):List Int:=if h:n<b\/b<2 then [(n:Int)] else fgN b (n / b)++[((n % b:Nat):Int)]
termination_by n
decreasing_by exact Nat.div_lt_self (by omega) (by omega)
def fg (b n:Int):List Int:=fgN b.toNat n.toNat
theorem fgN_digs (b:Nat) (hb:2<=b):∀n:Nat,Digs (b:Int) (n:Int) (fgN b n):=by
 intro n
 induction n using Nat.strongRecOn with
 | ind n ih=>
  unfold fgN
  by_cases h:n<b\/b<2
  ·rw [dif_pos h]
   refine ⟨fun d hd=>?_,?_,by simp,.inl rfl⟩
   ·rw [List.mem_singleton] at hd;subst hd;omega
   ·show (0:Int) * b+n=n;omega
  ·rw [dif_neg h]
   have hlt:n / b<n:=Nat.div_lt_self (by omega) (by omega)
   have d:=ih (n / b) hlt
   have hpos:0<n / b:=Nat.div_pos (by omega) (by omega)
   refine ⟨fun x hx=>?_,?_,by simp,.inr ?_⟩
   ·rcases List.mem_append.mp hx with hx|hx
    ·exact d.rng x hx
    ·rw [List.mem_singleton] at hx;subst hx
     have:=Nat.mod_lt n (show 0<b by omega)
     omega
   ·rw [val_snoc,d.val]
    have:=Nat.div_add_mod n b
    have e:((n / b:Nat):Int) * (b:Int)+((n % b:Nat):Int)=((n / b * b+n % b:Nat):Int):=by push_cast;rfl
    rw [e]
    congr 1
    rw [Nat.mul_comm];exact this
   ·have h1:=d.pos (by omega)
    match hq:fgN b (n / b),d.ne,h1 with
    | x::r,_,h1=>simpa using h1
theorem fg_digs {b n:Int} (hb:2<=b) (hn:0<=n):Digs b n (fg b n):=by
 have h:=fgN_digs b.toNat (by omega) n.toNat
 have e1:((b.toNat:Nat):Int)=b:=by omega
 have e2:((n.toNat:Nat):Int)=n:=by omega
 rw [e1,e2] at h
 exact h
theorem Digs.fg {b n:Int} {ds:List Int} (hb:2<=b) (hn:0<=n) (d:Digs b n ds):ds=fg b n:=Digs.uniq hb _ rfl d (fg_digs hb hn)
theorem Digs.nn {b n:Int} {ds:List Int} (hb:2<=b) (d:Digs b n ds):0<=n:=by
 have:=val_nn (show 0<=b by omega) d.rng
 rw [d.val] at this;exact this
theorem val_lt {b:Int} (hb:1<=b):∀{ds:List Int},(∀d∈ds,0<=d/\d<b)->val b ds<b ^ ds.length
 | [],_=>by show (0:Int)<b ^ 0;simp
 | d::r,h=>by
  have h1:=h d List.mem_cons_self
  have ih:=val_lt hb (ds:=r) fun x hx=>h x (List.mem_cons_of_mem _ hx)
  rw [val_cons,List.length_cons,Int.pow_succ]
  have p:=pow_pos' (show 0<b by omega) r.length
  have:(d+1) * b ^ r.length<=b * b ^ r.length:=Int.mul_le_mul_of_nonneg_right (by omega) (by omega)
  rw [Int.add_mul,Int.one_mul,Int.mul_comm b] at this
  omega
theorem Digs.lt {b n:Int} {ds:List Int} (hb:2<=b) (d:Digs b n ds):n<b ^ ds.length:=by rw [<-d.val];exact val_lt (by omega) d.rng
theorem Digs.ge {b n:Int} {ds:List Int} (hb:2<=b) (d:Digs b n ds) (hn:0<n):b ^ (ds.length - 1)<=n:=by
 have h:=d.pos hn
 have v:=d.val
 match ds,d.ne,h,d.rng,v with
 | x::r,_,h,rng,v=>
  have hx:=rng x List.mem_cons_self
  have x0:x≠0:=by simpa using h
  have hr:=val_nn (show 0<=b by omega) (xs:=r) fun y hy=>rng y (List.mem_cons_of_mem _ hy)
  rw [val_cons] at v
  show b ^ (r.length+1 - 1)<=n
  rw [Nat.add_sub_cancel]
  have p:=pow_pos' (show 0<b by omega) r.length
  have:1 * b ^ r.length<=x * b ^ r.length:=Int.mul_le_mul_of_nonneg_right (by omega) (by omega)
  omega
def Big:Int:=2 ^ 4000
theorem big_def:Big=2 ^ 4000:=rfl
theorem fg_len {b n:Int} (hb:2<=b) (hn:0<=n) (h:n<Big):(fg b n).length<=4001:=by
 have d:=fg_digs hb hn
 rw [big_def] at h
 by_cases z:0<n
 ·have g:=d.ge hb z
  by_cases q:(fg b n).length<=4001
  ·exact q
  ·have h1:=pow_ge_two hb ((fg b n).length - 1)
   have h2:=pow_mono2 (show 4000<=(fg b n).length - 1 by omega)
   generalize (2:Int) ^ 4000=w at *
   omega
 ·have e:n=0:=by omega
  subst e
  have:fg b 0=[0]:=by
   unfold fg fgN
   rw [dif_pos (by left;show (0:Int).toNat<b.toNat;omega)]
   rfl
  rw [this];decide
theorem fg_pos {b n:Int} (hb:2<=b) (hn:0<=n):0<(fg b n).length:=List.length_pos_iff.mpr (fg_digs hb hn).ne
def mir (b n:Int):Bool:=decide (fg b n=(fg b n).reverse)
theorem fg_zero {b:Int} (hb:2<=b):fg b 0=[0]:=by
 unfold fg fgN
 rw [dif_pos (by left;show (0:Int).toNat<b.toNat;omega)]
 rfl
theorem fg_small {b n:Int} (hn:0<=n) (h:n<b):fg b n=[n]:=by
 unfold fg fgN
 rw [dif_pos (by left;omega)]
 congr 1;omega
theorem mir_small {b n:Int} (hn:0<=n) (h:n<b):mir b n=true:=by
 unfold mir
 rw [fg_small hn h];exact decide_eq_true rfl
theorem big_40 {n:Int} (h:n<=10 ^ 40):n<Big:=by
 rw [big_def]
 have:(10:Int) ^ 40<2 ^ 4000:=by decide +kernel
 omega
theorem val_app (b:Int) (xs ys:List Int):val b (xs++ys)=val b xs * b ^ ys.length+val b ys:=by
 show (xs++ys).foldl _ 0=_
 rw [List.foldl_append]
 exact foldl_val b ys _
theorem pow1 (b:Int):b ^ 1=b:=by rw [Int.pow_succ,Int.pow_zero,Int.one_mul]
def ln (b n:Int):Nat:=(fg b n).length
theorem pow_le {b:Int} (hb:1<=b) {m n:Nat} (h:m<=n):b ^ m<=b ^ n:=by
 obtain ⟨k,rfl⟩:=Nat.exists_eq_add_of_le h
 rw [Int.pow_add]
 have p:=pow_pos' (show 0<b by omega) m
 have q:=pow_pos' (show 0<b by omega) k
 have:b ^ m * 1<=b ^ m * b ^ k:=Int.mul_le_mul_of_nonneg_left (by omega) (by omega)
 omega
theorem pow_lt {b:Int} (hb:2<=b) {m n:Nat} (h:m<n):b ^ m<b ^ n:=by
 have h1:=pow_le (b:=b) (by omega) (show m+1<=n by omega)
 rw [Int.pow_succ] at h1
 have p:=pow_pos' (show 0<b by omega) m
 have:b ^ m * 2<=b ^ m * b:=Int.mul_le_mul_of_nonneg_left hb (by omega)
 omega
theorem ln_ge {b n:Int} (hb:2<=b) (hn:1<=n):b ^ (ln b n - 1)<=n:=(fg_digs hb (by omega)).ge hb (by omega)
theorem ln_lt {b n:Int} (hb:2<=b) (hn:0<=n):n<b ^ (ln b n):=(fg_digs hb hn).lt hb
theorem ln_pos {b n:Int} (hb:2<=b) (hn:0<=n):1<=ln b n:=fg_pos hb hn
theorem ln_of {b n:Int} (hb:2<=b) {L:Nat} (hL:1<=L) (h1:b ^ (L - 1)<=n) (h2:n<b ^ L):ln b n=L:=by
 have p:=pow_pos' (show 0<b by omega) (L - 1)
 have g1:=ln_ge hb (show 1<=n by omega)
 have g2:=ln_lt hb (show 0<=n by omega)
 have g3:=ln_pos hb (show 0<=n by omega)
 by_cases h:ln b n<L
 ·have:=pow_le (b:=b) (by omega) (show ln b n<=L - 1 by omega)
  omega
 ·by_cases h':L<ln b n
  ·have:=pow_le (b:=b) (by omega) (show L<=ln b n - 1 by omega)
   omega
  ·omega
theorem ln_mono {b m n:Int} (hb:2<=b) (hm:0<=m) (h:m<=n):ln b m<=ln b n:=by
 by_cases hz:m=0
 ·subst hz
  have:ln b 0=1:=by unfold ln;rw [fg_zero hb];rfl
  have:=ln_pos hb (show 0<=n by omega)
  omega
 have g1:=ln_ge hb (show 1<=m by omega)
 have g2:=ln_lt hb (show 0<=n by omega)
 by_cases q:ln b m<=ln b n
 ·exact q
 ·have:=pow_le (b:=b) (by omega) (show ln b n<=ln b m - 1 by omega)
  omega
def hf (L:Nat):Nat:=(L+1) / 2
theorem front_val {b n:Int} {ds:List Int} (hb:2<=b) (d:Digs b n ds) (j:Nat) (hj:j<=ds.length):n / b ^ j=val b (ds.take (ds.length - j))/\n=val b (ds.take (ds.length - j)) * b ^ j+val b (ds.drop (ds.length - j)):=by
 have e:ds=ds.take (ds.length - j)++ds.drop (ds.length - j):=(List.take_append_drop _ _).symm
 have hv:=d.val
 rw [e,val_app] at hv
 have hl:(ds.drop (ds.length - j)).length=j:=by rw [List.length_drop];omega
 rw [hl] at hv
 have r:∀x∈ds.drop (ds.length - j),0<=x/\x<b:=fun x hx=>d.rng x (List.mem_of_mem_drop hx)
 have v0:=val_nn (show 0<=b by omega) r
 have v1:=val_lt (show 1<=b by omega) r
 rw [hl] at v1
 have p:=pow_pos' (show 0<b by omega) j
 refine ⟨?_,hv.symm⟩
 rw [<-hv,Int.add_comm,Int.add_mul_ediv_right _ _ (by omega),Int.ediv_eq_zero_of_lt v0 v1,Int.zero_add]
theorem take_digs {b n:Int} {ds:List Int} (hb:2<=b) (d:Digs b n ds) (hn:1<=n) {m:Nat} (h1:1<=m) (h2:m<=ds.length):Digs b (val b (ds.take m)) (ds.take m):=by
 have h:=d.pos (by omega)
 refine ⟨fun x hx=>d.rng x (List.mem_of_mem_take hx),rfl,?_,.inr ?_⟩
 ·intro z
  have:=congrArg List.length z
  rw [List.length_take,List.length_nil] at this
  omega
 ·match ds,m,h1,h2,h with
  | x::r,m+1,_,_,h=>simpa using h
def pal (b f:Int) (L:Nat):Int:=val b (fg b f++((fg b f).take (L / 2)).reverse)
theorem pal_rev {α:Type} {xs:List α} {L:Nat} (hl:xs.length=hf L):(xs++(xs.take (L / 2)).reverse).reverse=xs++(xs.take (L / 2)).reverse:=by
 unfold hf at hl
 rw [List.reverse_append,List.reverse_reverse]
 by_cases hp:L % 2=0
 ·have e:L / 2=xs.length:=by omega
  rw [e,List.take_length]
 ·have e:L / 2=xs.length - 1:=by omega
  rw [e]
  have hx:xs≠[]:=by intro z;rw [z] at hl;simp at hl;omega
  obtain ⟨ys,y,rfl⟩:∃ys y,xs=ys++[y]:=⟨xs.dropLast,xs.getLast hx,(List.dropLast_concat_getLast hx).symm⟩
  have e2:(ys++[y]).length - 1=ys.length:=by simp
  rw [e2,List.take_left' rfl,List.reverse_append]
  simp
structure Fr (b f:Int) (L:Nat):Prop where
 b2:2<=b
 L1:1<=L
 lo:b ^ (hf L - 1)<=f
 hi:f<b ^ hf L
theorem hf_pos {L:Nat} (h:1<=L):1<=hf L:=by unfold hf;omega
theorem Fr.pos {b f:Int} {L:Nat} (h:Fr b f L):1<=f:=by have:=pow_pos' (show 0<b by have:=h.b2;omega) (hf L - 1);have:=h.lo;omega
theorem Fr.len {b f:Int} {L:Nat} (h:Fr b f L):(fg b f).length=hf L:=ln_of h.b2 (hf_pos h.L1) h.lo h.hi
theorem Fr.digs {b f:Int} {L:Nat} (h:Fr b f L):Digs b (pal b f L) (fg b f++((fg b f).take (L / 2)).reverse):=by
 have d:=fg_digs h.b2 (show 0<=f by have:=h.pos;omega)
 have p:=d.pos (by have:=h.pos;omega)
 refine ⟨fun x hx=>?_,rfl,?_,.inr ?_⟩
 ·rcases List.mem_append.mp hx with hx|hx
  ·exact d.rng x hx
  ·exact d.rng x (List.mem_of_mem_take (List.mem_reverse.mp hx))
 ·intro z;exact d.ne (List.append_eq_nil_iff.mp z).1
 ·match fg b f,d.ne,p with
  | x::r,_,p=>simpa using p
theorem Fr.pal0 {b f:Int} {L:Nat} (h:Fr b f L):0<=pal b f L:=h.digs.nn h.b2
theorem Fr.fgp {b f:Int} {L:Nat} (h:Fr b f L):fg b (pal b f L)=fg b f++((fg b f).take (L / 2)).reverse:=(h.digs.fg h.b2 h.pal0).symm
theorem Fr.mir {b f:Int} {L:Nat} (h:Fr b f L):mir b (pal b f L)=true:=by
 unfold M.mir
 rw [h.fgp]
 exact decide_eq_true (pal_rev h.len).symm
theorem Fr.ln {b f:Int} {L:Nat} (h:Fr b f L):ln b (pal b f L)=L:=by
 unfold M.ln
 have l:=h.len
 have:=h.L1
 rw [h.fgp,List.length_append,List.length_reverse,List.length_take,l]
 unfold hf;omega
theorem Fr.split {b f:Int} {L:Nat} (h:Fr b f L):f * b ^ (L / 2)<=pal b f L/\pal b f L<(f+1) * b ^ (L / 2):=by
 have d:=fg_digs h.b2 (show 0<=f by have:=h.pos;omega)
 have hb:=h.b2
 have e:pal b f L=val b (fg b f) * b ^ (((fg b f).take (L / 2)).reverse).length+val b (((fg b f).take (L / 2)).reverse):=val_app _ _ _
 have hl:(((fg b f).take (L / 2)).reverse).length=L / 2:=by rw [List.length_reverse,List.length_take,h.len];unfold hf;omega
 rw [hl,d.val] at e
 have r:∀x∈((fg b f).take (L / 2)).reverse,0<=x/\x<b:=fun x hx=>d.rng x (List.mem_of_mem_take (List.mem_reverse.mp hx))
 have v0:=val_nn (show 0<=b by omega) r
 have v1:=val_lt (show 1<=b by omega) r
 rw [hl] at v1
 rw [Int.add_mul,Int.one_mul]
 omega
theorem Fr.front {b f:Int} {L:Nat} (h:Fr b f L):pal b f L / b ^ (L / 2)=f:=by
 obtain ⟨h1,h2⟩:=h.split
 have p:=pow_pos' (show 0<b by have:=h.b2;omega) (L / 2)
 have g1:f<=pal b f L / b ^ (L / 2):=Int.le_ediv_of_mul_le p h1
 have g2:pal b f L / b ^ (L / 2)<f+1:=Int.ediv_lt_of_lt_mul p h2
 omega
theorem Fr.mono {b f f':Int} {L:Nat} (h:Fr b f L) (h':Fr b f' L) (hlt:f<f'):pal b f L<pal b f' L:=by
 have h1:=h.split.2
 have h2:=h'.split.1
 have p:=pow_pos' (show 0<b by have:=h.b2;omega) (L / 2)
 have:(f+1) * b ^ (L / 2)<=f' * b ^ (L / 2):=Int.mul_le_mul_of_nonneg_right (by omega) (by omega)
 omega
theorem front_of {b n:Int} (hb:2<=b) (hn:1<=n):Fr b (n / b ^ (ln b n / 2)) (ln b n):=by
 have d:=fg_digs hb (show 0<=n by omega)
 have l1:=ln_pos hb (show 0<=n by omega)
 obtain ⟨e,_⟩:=front_val hb d (ln b n / 2) (by unfold ln;omega)
 have el:(fg b n).length - ln b n / 2=hf (ln b n):=by unfold hf ln;unfold ln at l1;omega
 rw [el] at e
 have d2:=take_digs hb d hn (hf_pos l1) (by unfold hf ln;unfold ln at l1;omega)
 have l2:((fg b n).take (hf (ln b n))).length=hf (ln b n):=by rw [List.length_take];unfold hf ln;unfold ln at l1;omega
 rw [e]
 refine ⟨hb,l1,?_,?_⟩
 ·have hpos:0<val b ((fg b n).take (hf (ln b n))):=by
   rw [<-e]
   have g:=ln_ge hb hn
   have p:=pow_pos' (show 0<b by omega) (ln b n / 2)
   by_cases z:0<n / b ^ (ln b n / 2)
   ·exact z
   ·have z0:=Int.ediv_nonneg (show 0<=n by omega) (show 0<=b ^ (ln b n / 2) by omega)
    have z1:n / b ^ (ln b n / 2)=0:=by omega
    have z2:=Int.lt_mul_of_ediv_lt p (show n / b ^ (ln b n / 2)<1 by omega)
    rw [Int.one_mul] at z2
    by_cases q:ln b n=1
    ·rw [q] at z2;simp at z2;omega
    ·have:=pow_le (b:=b) (by omega) (show ln b n / 2<=ln b n - 1 by omega)
     omega
  have:=d2.ge hb hpos
  rw [l2] at this;exact this
 ·have:=d2.lt hb
  rw [l2] at this;exact this
theorem mir_pal {b n:Int} (hb:2<=b) (hn:1<=n) (h:mir b n=true):pal b (n / b ^ (ln b n / 2)) (ln b n)=n:=by
 have d:=fg_digs hb (show 0<=n by omega)
 have F:=front_of hb hn
 obtain ⟨e,_⟩:=front_val hb d (ln b n / 2) (by unfold ln;omega)
 have l1:=ln_pos hb (show 0<=n by omega)
 have el:(fg b n).length - ln b n / 2=hf (ln b n):=by unfold hf ln;unfold ln at l1;omega
 rw [el] at e
 have d2:=take_digs hb d hn (hf_pos l1) (by unfold hf ln;unfold ln at l1;omega)
 have e3:fg b (n / b ^ (ln b n / 2))=(fg b n).take (hf (ln b n)):=by
  rw [e];exact (d2.fg hb (d2.nn hb)).symm
 have hp:fg b n=(fg b n).reverse:=of_decide_eq_true h
 unfold pal
 rw [e3,List.take_take]
 have em:min (ln b n / 2) (hf (ln b n))=ln b n / 2:=by unfold hf;omega
 rw [em]
 have ed:(fg b n).drop (hf (ln b n))=((fg b n).take (ln b n / 2)).reverse:=by
  have:(fg b n).drop (hf (ln b n))=((fg b n).reverse).drop (hf (ln b n)):=by rw [<-hp]
  rw [this,List.drop_reverse]
  congr 2
  unfold hf ln;unfold ln at l1;omega
 rw [<-ed,List.take_append_drop]
 exact d.val
def Mp (b m:Int):Prop:=0<=m/\mir b m=true
structure AM (b n m:Int):Prop where
 mp:Mp b m
 le:m<=n
 top:∀k,Mp b k->k<=n->k<=m
structure AL (b n m:Int):Prop where
 mp:Mp b m
 le:n<=m
 bot:∀k,Mp b k->n<=k->m<=k
structure Nx (b n m:Int):Prop where
 mp:Mp b m
 lt:n<m
 bot:∀k,Mp b k->n<k->m<=k
theorem AM.uniq {b n m m':Int} (h:AM b n m) (h':AM b n m'):m=m':=by
 have:=h.top m' h'.mp h'.le
 have:=h'.top m h.mp h.le
 omega
theorem Nx.uniq {b n m m':Int} (h:Nx b n m) (h':Nx b n m'):m=m':=by
 have:=h.bot m' h'.mp h'.lt
 have:=h'.bot m h.mp h.lt
 omega
theorem mp_small {b m:Int} (h0:0<=m) (h:m<b):Mp b m:=⟨h0,mir_small h0 h⟩
theorem nines {b:Int} (hb:2<=b) {L:Nat} (hL:1<=L):Fr b (b ^ hf L - 1) L/\pal b (b ^ hf L - 1) L=b ^ L - 1:=by
 have h1:=hf_pos hL
 have F:Fr b (b ^ hf L - 1) L:=⟨hb,hL,by
  have:=pow_lt hb (show hf L - 1<hf L by omega)
  omega,by omega⟩
 refine ⟨F,?_⟩
 -- its figures are all the greatest
 have rep:∀k:Nat,val b (List.replicate k (b - 1))=b ^ k - 1:=by
  intro k
  induction k with
  | zero=>simp [val]
  | succ k ih=>
   rw [List.replicate_succ,val_cons,List.length_replicate,ih,Int.pow_succ,Int.sub_mul,Int.one_mul,Int.mul_comm b]
   omega
 have dg:Digs b (b ^ hf L - 1) (List.replicate (hf L) (b - 1)):=⟨fun d hd=>by have:=List.eq_of_mem_replicate hd;omega,rep _,by
  obtain ⟨k,hk⟩:∃k,hf L=k+1:=⟨hf L - 1,by omega⟩
  rw [hk,List.replicate_succ];simp,.inr (by
  obtain ⟨k,hk⟩:∃k,hf L=k+1:=⟨hf L - 1,by omega⟩
  rw [hk,List.replicate_succ]
  intro z
  have:b - 1=0:=by simpa using z
  omega)⟩
 have e:=(dg.fg hb (by have:=F.pos;omega))
 unfold pal
 rw [<-e,List.take_replicate,List.reverse_replicate,List.replicate_append_replicate,rep]
 have:hf L+min (L / 2) (hf L)=L:=by unfold hf;omega
 rw [this]
theorem nines_mp {b:Int} (hb:2<=b) (L:Nat):Mp b (b ^ L - 1):=by
 by_cases h:1<=L
 ·obtain ⟨F,e⟩:=nines hb h
  rw [<-e];exact ⟨F.pal0,F.mir⟩
 ·have:L=0:=by omega
  subst this
  exact mp_small (by simp) (by simp;omega)
theorem Fr.mp {b f:Int} {L:Nat} (h:Fr b f L):Mp b (pal b f L):=⟨h.pal0,h.mir⟩
theorem nx_front {b m:Int} (hb:2<=b) (hm:Mp b m) (h1:1<=m) (h:m≠b ^ ln b m - 1):Fr b (m / b ^ (ln b m / 2)+1) (ln b m)/\Nx b m (pal b (m / b ^ (ln b m / 2)+1) (ln b m)):=by
 have F:=front_of hb h1
 have em:=mir_pal hb h1 hm.2
 have p:=pow_pos' (show 0<b by omega) (ln b m / 2)
 have F1:Fr b (m / b ^ (ln b m / 2)+1) (ln b m):=⟨hb,F.L1,by have:=F.lo;omega,by
  have hi:=F.hi
  by_cases z:m / b ^ (ln b m / 2)+1<b ^ hf (ln b m)
  ·exact z
  ·have e:m / b ^ (ln b m / 2)=b ^ hf (ln b m) - 1:=by omega
   have:=(nines hb F.L1).2
   rw [<-e] at this
   omega⟩
 refine ⟨F1,F1.mp,by have:=F.mono F1 (by omega);omega,fun k hk hkn=>?_⟩
 have ll:=ln_mono hb hm.1 (show m<=k by omega)
 by_cases hL:ln b k=ln b m
 ·have Fk:=front_of hb (show 1<=k by omega)
  have ek:=mir_pal hb (show 1<=k by omega) hk.2
  rw [hL] at Fk ek
  have hle:m / b ^ (ln b m / 2)<=k / b ^ (ln b m / 2):=Int.ediv_le_ediv p (by omega)
  by_cases he:m / b ^ (ln b m / 2)=k / b ^ (ln b m / 2)
  ·rw [<-he] at ek;omega
  ·by_cases he2:m / b ^ (ln b m / 2)+1=k / b ^ (ln b m / 2)
   ·rw [he2];omega
   ·have:=F1.mono Fk (by omega)
    omega
 ·have g1:=ln_lt hb F1.pal0
  rw [F1.ln] at g1
  have g2:=ln_ge hb (show 1<=k by omega)
  have:=pow_le (b:=b) (by omega) (show ln b m<=ln b k - 1 by omega)
  omega
theorem val_zeros (b:Int):∀k:Nat,val b (List.replicate k 0)=0
 | 0=>rfl
 | k+1=>by rw [List.replicate_succ,val_cons,val_zeros b k,Int.zero_mul,Int.zero_add]
theorem pow_digs {b:Int} (hb:2<=b) (k:Nat):Digs b (b ^ k) (1::List.replicate k 0):=
 ⟨fun d hd=>by
  rcases List.mem_cons.mp hd with rfl|hd
  ·omega
  ·have:=List.eq_of_mem_replicate hd;omega,by rw [val_cons,val_zeros,List.length_replicate];omega,by simp,.inr (by simp)⟩
theorem pow_not {b:Int} (hb:2<=b) {k:Nat} (hk:1<=k):mir b (b ^ k)=false:=by
 unfold mir
 have e:=(pow_digs hb k).fg hb (by have:=pow_pos' (show 0<b by omega) k;omega)
 rw [<-e]
 obtain ⟨j,rfl⟩:∃j,k=j+1:=⟨k - 1,by omega⟩
 refine decide_eq_false fun z=>?_
 have:=congrArg List.head? z
 rw [List.replicate_succ',List.reverse_cons,List.reverse_append] at this
 simp at this
theorem more_digs {b:Int} (hb:2<=b) (k:Nat):Digs b (b ^ (k+1)+1) (1::(List.replicate k 0++[1])):=
 ⟨fun d hd=>by
  rcases List.mem_cons.mp hd with rfl|hd
  ·omega
  ·rcases List.mem_append.mp hd with hd|hd
   ·have:=List.eq_of_mem_replicate hd;omega
   ·rw [List.mem_singleton] at hd;omega,by
  rw [val_cons,val_snoc,val_zeros,List.length_append,List.length_replicate,List.length_singleton];omega,by simp,.inr (by simp)⟩
theorem more_mp {b:Int} (hb:2<=b) (k:Nat):Mp b (b ^ (k+1)+1):=by
 have p:=pow_pos' (show 0<b by omega) (k+1)
 refine ⟨by omega,?_⟩
 unfold mir
 rw [<-(more_digs hb k).fg hb (by omega)]
 refine decide_eq_true ?_
 rw [List.reverse_cons,List.reverse_append,List.reverse_replicate]
 simp
theorem nx_nines {b:Int} (hb:2<=b) {L:Nat} (hL:1<=L):Nx b (b ^ L - 1) (b ^ L+1):=by
 obtain ⟨j,rfl⟩:∃j,L=j+1:=⟨L - 1,by omega⟩
 refine ⟨more_mp hb j,by omega,fun k hk h=>?_⟩
 by_cases e:k=b ^ (j+1)
 ·have:=hk.2
  rw [e,pow_not hb (by omega)] at this;cases this
 ·omega
theorem nx_zero {b:Int} (hb:2<=b):Nx b 0 1:=⟨mp_small (by decide) (by omega),by decide,fun k _ h=>by omega⟩
theorem AL.nx {b n lo hi:Int} (h:AL b n hi) (l:AM b n lo) (hne:n<hi):Nx b lo hi:=by
 refine ⟨h.mp,by have:=l.le;omega,fun k hk hlk=>?_⟩
 by_cases z:n<=k
 ·exact h.bot k hk z
 ·have:=l.top k hk (by omega)
  omega
theorem ln_le {b n:Int} (hb:2<=b) (hn:0<=n) (h:n<Big):ln b n<=4001:=fg_len hb hn h
def mtl (b:Int) (L:Nat):Int:=b ^ hf L - 1+b ^ (L / 2) - 1
def pl (b m:Int):Int:=if m=0 then 0 else mtl b (ln b m - 1)+(m / b ^ (ln b m / 2) - b ^ (hf (ln b m) - 1))+1
def cntN (b:Int):Nat->Int
 | 0=>0
 | n+1=>cntN b n+(if mir b ((n:Int)+1)=true then 1 else 0)
def cnt (b n:Int):Int:=cntN b n.toNat
theorem mtl_succ {b:Int} {L:Nat} (hL:1<=L):mtl b L=mtl b (L - 1)+b ^ hf L - b ^ (hf L - 1):=by
 unfold mtl
 have e1:hf (L - 1)=L / 2:=by unfold hf;omega
 have e2:(L - 1) / 2=hf L - 1:=by unfold hf;omega
 rw [e1,e2];omega
theorem pl_next {b m m':Int} (hb:2<=b) (hm:Mp b m) (h:Nx b m m'):pl b m'=pl b m+1:=by
 by_cases hz:m=0
 ·subst hz
  have e:=h.uniq (nx_zero hb)
  subst e
  have l1:ln b 1=1:=by unfold ln;rw [fg_small (by decide) (by omega)];rfl
  unfold pl
  rw [if_neg (by decide),if_pos rfl,l1]
  simp [mtl,hf]
 have m1:1<=m:=by have:=hm.1;omega
 have F:=front_of hb m1
 have em:=mir_pal hb m1 hm.2
 by_cases hn:m=b ^ ln b m - 1
 ·-- greatest figures alone
  have l0:=ln_pos hb hm.1
  have nx:=nx_nines hb l0
  rw [<-hn] at nx
  have e:=h.uniq nx
  have p:=pow_pos' (show 0<b by omega) (ln b m)
  have q2:=pow_le (b:=b) (by omega) (show 1<=ln b m by omega)
  rw [pow1] at q2
  have ll:ln b m'=ln b m+1:=ln_of hb (by omega) (by rw [Nat.add_sub_cancel,e];omega) (by
   rw [e,Int.pow_succ]
   have:b ^ ln b m * 2<=b ^ ln b m * b:=Int.mul_le_mul_of_nonneg_left hb (by omega)
   omega)
  have hne:m'≠0:=by rw [e];omega
  have fr:m' / b ^ ((ln b m+1) / 2)=b ^ (hf (ln b m+1) - 1):=by
   have ep:b ^ ln b m=b ^ (hf (ln b m+1) - 1) * b ^ ((ln b m+1) / 2):=by
    rw [<-Int.pow_add];congr 1;unfold hf;omega
   have p2:=pow_pos' (show 0<b by omega) ((ln b m+1) / 2)
   have p3:=pow_le (b:=b) (by omega) (show 1<=(ln b m+1) / 2 by omega)
   rw [pow1] at p3
   rw [e,ep,Int.add_comm,Int.add_mul_ediv_right _ _ (by omega),Int.ediv_eq_zero_of_lt (by decide) (by omega),Int.zero_add]
  have f0:m / b ^ (ln b m / 2)=b ^ hf (ln b m) - 1:=by
   have N:=nines hb l0
   have:pal b (b ^ hf (ln b m) - 1) (ln b m)=m:=by rw [N.2];exact hn.symm
   have g:=N.1.front
   rw [this] at g;exact g
  unfold pl
  rw [if_neg hne,if_neg hz,ll,Nat.add_sub_cancel,fr,f0,mtl_succ l0]
  omega
 ·obtain ⟨F1,nx⟩:=nx_front hb hm m1 hn
  have e:=h.uniq nx
  have ll:ln b m'=ln b m:=by rw [e];exact F1.ln
  have fr:m' / b ^ (ln b m / 2)=m / b ^ (ln b m / 2)+1:=by rw [e];exact F1.front
  have hne:m'≠0:=by have:=h.lt;omega
  unfold pl
  rw [if_neg hne,if_neg hz,ll,fr]
  omega
theorem AM.step {b:Int} {n:Nat} {m:Int} (h:AM b n m) (hm:mir b ((n:Int)+1)=false):AM b ((n:Int)+1) m:=⟨h.mp,by have:=h.le;omega,fun k hk hle=>by
 by_cases e:k=(n:Int)+1
 ·rw [e] at hk;rw [hk.2] at hm;cases hm
 ·exact h.top k hk (by omega)⟩
theorem AM.self {b m:Int} (h:Mp b m):AM b m m:=⟨h,Int.le_refl _,fun _ _ h=>h⟩
theorem am_ex {b:Int} (hb:2<=b):∀n:Nat,∃m,AM b n m
 | 0=>⟨0,mp_small (by decide) (by omega),by simp,fun k _ h=>h⟩
 | n+1=>by
  cases hm:mir b ((n:Int)+1) with
  | true=>exact ⟨(n:Int)+1,AM.self ⟨by omega,hm⟩⟩
  | false=>
   obtain ⟨m,h⟩:=am_ex hb n
   exact ⟨m,h.step hm⟩
theorem pl_cntN {b:Int} (hb:2<=b):∀(n:Nat) (m:Int),AM b n m->pl b m=cntN b n
 | 0,m,h=>by
  have:m=0:=by have:=h.le;have:=h.mp.1;omega
  subst this
  unfold pl;rw [if_pos rfl];rfl
 | n+1,m,h=>by
  have h':AM b ((n:Int)+1) m:=h
  show pl b m=cntN b n+_
  obtain ⟨m0,h0⟩:=am_ex hb n
  have ih:=pl_cntN hb n m0 h0
  cases hm:mir b ((n:Int)+1) with
  | true=>
   have e:m=(n:Int)+1:=h'.uniq (AM.self ⟨by omega,hm⟩)
   have nx:Nx b m0 m:=⟨h.mp,by have:=h0.le;omega,fun k hk hlt=>by
    by_cases z:k<=n
    ·have:=h0.top k hk z;omega
    ·omega⟩
   rw [pl_next hb h0.mp nx,ih];simp
  | false=>
   have e:m=m0:=h'.uniq (h0.step hm)
   rw [e,ih];simp
theorem pl_cnt {b n m:Int} (hb:2<=b) (hn:0<=n) (h:AM b n m):pl b m=cnt b n:=by
 unfold cnt
 refine pl_cntN hb _ _ ?_
 have:((n.toNat:Nat):Int)=n:=by omega
 rw [this];exact h
theorem Fr.pl {b f:Int} {L:Nat} (F:Fr b f L):pl b (pal b f L)=mtl b (L - 1)+(f - b ^ (hf L - 1))+1:=by
 have h1:=F.split.1
 have p:=pow_pos' (show 0<b by have:=F.b2;omega) (L / 2)
 have:=F.pos
 have:=Int.mul_le_mul_of_nonneg_right (show 1<=f by omega) (show 0<=b ^ (L / 2) by omega)
 unfold M.pl
 rw [if_neg (by omega),F.ln,F.front]
theorem pl_mtl {b m:Int} (hb:2<=b) (hm:Mp b m) (h1:1<=m):pl b m<=mtl b (ln b m):=by
 have F:=front_of hb h1
 have e:=F.pl
 rw [mir_pal hb h1 hm.2] at e
 rw [e,mtl_succ F.L1]
 have:=F.hi
 omega
theorem sq_lt {x y:Int} (hx:0<=x) (hy:0<=y) (h:x * x<=y * y):x<=y:=by
 by_cases z:x<=y
 ·exact z
 ·have h1:y * x<x * x:=Int.mul_lt_mul_of_pos_right (by omega) (by omega)
  have h2:y * y<=y * x:=Int.mul_le_mul_of_nonneg_left (by omega) hy
  omega
theorem cnt_snoc {b:Int} {n:Nat}:cntN b (n+1)=cntN b n+(if mir b ((n:Int)+1)=true then 1 else 0):=rfl
def pms (b:Int):Nat->List Int
 | 0=>[]
 | n+1=>if mir b ((n:Int)+1)=true then pms b n++[(n:Int)+1] else pms b n
def mto (b n:Int):List Int:=pms b n.toNat
theorem pms_yes {b:Int} {n:Nat} (h:mir b ((n:Int)+1)=true):pms b (n+1)=pms b n++[(n:Int)+1]:=by rw [pms,if_pos h]
theorem pms_no {b:Int} {n:Nat} (h:¬mir b ((n:Int)+1)=true):pms b (n+1)=pms b n:=by rw [pms,if_neg h]
theorem pms_gap {b:Int} {m:Nat}:∀{n:Nat},m<=n->(∀k:Int,(m:Int)<k->k<=(n:Int)->¬mir b k=true)->pms b n=pms b m
 | 0,h,_=>by
  have:m=0:=by omega
  rw [this]
 | n+1,h,hk=>by
  by_cases e:m=n+1
  ·rw [e]
  ·rw [pms_no (hk _ (by omega) (by omega))]
   exact pms_gap (by omega) fun k h1 h2=>hk k h1 (by omega)
theorem mto_gap {b m m' n:Int} (hm:Mp b m) (h:Nx b m m') (h1:m<=n) (h2:n<m'):mto b n=mto b m:=by
 have m0:=hm.1
 unfold mto
 refine pms_gap (by omega) fun k k1 k2 hk=>?_
 have:=h.bot k ⟨by omega,hk⟩ (by omega)
 omega
theorem mto_step {b m m':Int} (hm:Mp b m) (h:Nx b m m'):mto b m'=mto b m++[m']:=by
 have m0:=hm.1
 have lt:=h.lt
 have g:=mto_gap hm h (n:=m' - 1) (by omega) (by omega)
 rw [<-g]
 unfold mto
 obtain ⟨k,hk⟩:∃k,m'.toNat=k+1:=⟨m'.toNat - 1,by omega⟩
 have e:(m' - 1).toNat=k:=by omega
 have e2:(k:Int)+1=m':=by omega
 rw [hk,e,pms_yes (by rw [e2];exact h.mp.2),e2]
theorem mem_pms {b:Int}:∀{n:Nat} {k:Int},k∈pms b n ↔ 1<=k/\k<=(n:Int)/\mir b k=true
 | 0,k=>by
  simp only [pms,List.not_mem_nil,false_iff]
  omega
 | n+1,k=>by
  have ih:=mem_pms (b:=b) (n:=n) (k:=k)
  by_cases h:mir b ((n:Int)+1)=true
  ·rw [pms_yes h,List.mem_append,List.mem_singleton,ih]
   constructor
   ·rintro (⟨h1,h2,h3⟩|rfl)
    ·exact ⟨h1,by omega,h3⟩
    ·exact ⟨by omega,by omega,h⟩
   ·rintro ⟨h1,h2,h3⟩
    by_cases e:k=(n:Int)+1
    ·exact .inr e
    ·exact .inl ⟨h1,by omega,h3⟩
  ·rw [pms_no h,ih]
   constructor
   ·rintro ⟨h1,h2,h3⟩;exact ⟨h1,by omega,h3⟩
   ·rintro ⟨h1,h2,h3⟩
    refine ⟨h1,?_,h3⟩
    by_cases e:k=(n:Int)+1
    ·rw [e] at h3;exact absurd h3 h
    ·omega
theorem mem_mto {b n k:Int} (hn:0<=n):k∈mto b n ↔ 1<=k/\k<=n/\mir b k=true:=by
 unfold mto
 rw [mem_pms]
 have:((n.toNat:Nat):Int)=n:=by omega
 rw [this]
theorem pms_sorted (b:Int):∀n:Nat,(pms b n).Pairwise (·<·)
 | 0=>List.Pairwise.nil
 | n+1=>by
  have ih:=pms_sorted b n
  by_cases h:mir b ((n:Int)+1)=true
  ·rw [pms_yes h,List.pairwise_append]
   refine ⟨ih,List.pairwise_singleton _ _,fun x hx y hy=>?_⟩
   rw [List.mem_singleton] at hy
   have:=(mem_pms.mp hx).2.1
   omega
  ·rw [pms_no h];exact ih
theorem mto_sorted (b n:Int):(mto b n).Pairwise (·<·):=pms_sorted b _
theorem pms_len (b:Int):∀n:Nat,((pms b n).length:Int)=cntN b n
 | 0=>rfl
 | n+1=>by
  have ih:=pms_len b n
  by_cases h:mir b ((n:Int)+1)=true
  ·rw [pms_yes h,List.length_append,cnt_snoc,if_pos h,<-ih];simp
  ·rw [pms_no h,cnt_snoc,if_neg h,<-ih];simp
theorem mto_len (b n:Int):((mto b n).length:Int)=cnt b n:=pms_len b _
theorem nx_least {b:Int} (hb:2<=b) {L:Nat} (hL:1<=L):Nx b (b ^ (L - 1) - 1) (pal b (b ^ (hf L - 1)) L):=by
 by_cases h1:L=1
 ·subst h1
  have e:pal b (b ^ (hf 1 - 1)) 1=1:=by
   show pal b (b ^ 0) 1=1
   rw [Int.pow_zero]
   unfold pal;rw [fg_small (by decide) (by omega)];simp [val]
  rw [e]
  show Nx b (b ^ 0 - 1) 1
  rw [Int.pow_zero]
  exact nx_zero hb
 ·obtain ⟨K,rfl⟩:∃K,L=K+1:=⟨L - 1,by omega⟩
  have hK:1<=K:=by omega
  rw [Nat.add_sub_cancel]
  have nx:=nx_nines hb hK
  have p:=pow_le (b:=b) (by omega) hK
  rw [pow1] at p
  have ll:ln b (b ^ K+1)=K+1:=ln_of hb (by omega) (by rw [Nat.add_sub_cancel];omega) (by
   rw [Int.pow_succ]
   have:b ^ K * 2<=b ^ K * b:=Int.mul_le_mul_of_nonneg_left hb (by omega)
   omega)
  have mp:=mir_pal hb (show 1<=b ^ K+1 by omega) nx.mp.2
  rw [ll] at mp
  have fr:(b ^ K+1) / b ^ ((K+1) / 2)=b ^ (hf (K+1) - 1):=by
   have ep:b ^ K=b ^ (hf (K+1) - 1) * b ^ ((K+1) / 2):=by
    rw [<-Int.pow_add];congr 1;unfold hf;omega
   have p2:=pow_pos' (show 0<b by omega) ((K+1) / 2)
   have p3:=pow_le (b:=b) (by omega) (show 1<=(K+1) / 2 by omega)
   rw [pow1] at p3
   rw [ep,Int.add_comm,Int.add_mul_ediv_right _ _ (by omega),Int.ediv_eq_zero_of_lt (by decide) (by omega),Int.zero_add]
  rw [fr] at mp
  rw [mp]
  exact nx
theorem nx_in {b f:Int} {L:Nat} (F:Fr b f L) (F1:Fr b (f+1) L):Nx b (pal b f L) (pal b (f+1) L):=by
 have hb:=F.b2
 obtain ⟨FN,eN⟩:=nines hb F.L1
 have hlt:pal b f L<b ^ L - 1:=by rw [<-eN];exact F.mono FN (by have:=F1.hi;omega)
 have s:=F.split.1
 have p:=pow_pos' (show 0<b by omega) (L / 2)
 have fp:=F.pos
 have:=Int.mul_le_mul_of_nonneg_right (show 1<=f by omega) (show 0<=b ^ (L / 2) by omega)
 have nx:=nx_front hb F.mp (by omega) (by rw [F.ln];omega)
 rw [F.ln,F.front] at nx
 exact nx.2
theorem cnt_le6 {b n:Int} (hb:2<=b) (h36:b<=36) (h0:0<=n) (h:n<=10 ^ 6):cnt b n<80000:=by
 obtain ⟨m,hm⟩:=am_ex hb n.toNat
 rw [show ((n.toNat:Nat):Int)=n by omega] at hm
 rw [<-pl_cnt hb h0 hm]
 have ml:=hm.le
 by_cases hz:m=0
 ·rw [hz];unfold pl;rw [if_pos rfl];decide
 have m1:1<=m:=by have:=hm.mp.1;omega
 have l0:=ln_pos hb hm.mp.1
 have g:=ln_ge hb m1
 have hp:=pow_pos' (show 0<b by omega) (hf (ln b m))
 have e1:b ^ hf (ln b m) * b ^ hf (ln b m)<=(36 * 10 ^ 3) * (36 * 10 ^ 3):=by
  rw [<-Int.pow_add]
  have h1:hf (ln b m)+hf (ln b m)<=ln b m - 1+2:=by unfold hf;omega
  have h2:=pow_le (b:=b) (by omega) h1
  have h2e:b ^ (ln b m - 1+2)=b ^ (ln b m - 1) * b ^ 2:=Int.pow_add ..
  rw [h2e] at h2
  have h3:b ^ 2<=36 * 36:=by
   have:b ^ 2=b * b:=by rw [Int.pow_succ,pow1]
   rw [this]
   exact Int.mul_le_mul h36 h36 (by omega) (by decide)
  have h4:b ^ (ln b m - 1) * b ^ 2<=10 ^ 6 * (36 * 36):=Int.mul_le_mul (by omega) h3 (by have:=pow_pos' (show 0<b by omega) 2;omega) (by decide)
  have h5:(10:Int) ^ 6 * (36 * 36)=(36 * 10 ^ 3) * (36 * 10 ^ 3):=by decide
  omega
 have e2:=sq_lt (by omega) (by decide) e1
 have e3:=pl_mtl hb hm.mp m1
 have e4:=pow_le (b:=b) (by omega) (show ln b m / 2<=hf (ln b m) by unfold hf;omega)
 unfold mtl at e3
 have:(36:Int) * 10 ^ 3+36 * 10 ^ 3<80000:=by decide
 omega
def cg (b:Bool):List Int->Nat->Int->Int
 | [],k,n=>if n=0/\(b=true->k=0) then 1 else 0
 | p::ps,k,n=>cg b ps k n+if h:0<p/\p<=n/\(b=true->0<k) then cg b (p::ps) (k - 1) (n - p) else 0
termination_by ps _ n=>(ps.length,n.toNat)
decreasing_by
 ·apply Prod.Lex.left;simp
 ·apply Prod.Lex.right;omega
theorem cg_nil {b:Bool} {k:Nat} {n:Int}:cg b [] k n=if n=0/\(b=true->k=0) then 1 else 0:=by rw [cg]
theorem cg_cons {b:Bool} {p:Int} {ps:List Int} {k:Nat} {n:Int}:cg b (p::ps) k n=cg b ps k n+if 0<p/\p<=n/\(b=true->0<k) then cg b (p::ps) (k - 1) (n - p) else 0:=by
 rw [cg]
 split<;>rfl
theorem cg_ind {b:Bool} {p:Int} {ps:List Int} {Q:Nat->Int->Prop} (h:∀k n,(0<p->p<=n->(b=true->0<k)->Q (k - 1) (n - p))->Q k n):∀k n,Q k n:=by
 have:∀(m:Nat) (k:Nat) (n:Int),n.toNat<=m->Q k n:=by
  intro m
  induction m with
  | zero=>intro k n hn;exact h k n fun h1 h2 _=>by omega
  | succ m ih=>intro k n hn;exact h k n fun h1 h2 _=>ih _ _ (by omega)
 exact fun k n=>this n.toNat k n (Nat.le_refl _)
theorem cg_nonneg {b:Bool}:∀(ps:List Int) (k:Nat) (n:Int),0<=cg b ps k n
 | [],k,n=>by rw [cg_nil];split<;>omega
 | p::ps,k,n=>by
  refine cg_ind (b:=b) (p:=p) (ps:=ps) (Q:=fun k n=>0<=cg b (p::ps) k n) (fun k n ih=>?_) k n
  rw [cg_cons]
  have:=cg_nonneg (b:=b) ps k n
  split
  ·rename_i h;have:=ih h.1 h.2.1 h.2.2;omega
  ·omega
theorem cg_neg {b:Bool}:∀(ps:List Int) (k:Nat) (n:Int),n<0->cg b ps k n=0
 | [],k,n,h=>by rw [cg_nil,if_neg (by omega)]
 | p::ps,k,n,h=>by rw [cg_cons,cg_neg ps k n h,if_neg (by omega)];rfl
theorem cg_zero {b:Bool}:∀(ps:List Int) (k:Nat),cg b ps k 0=if (b=true->k=0) then 1 else 0
 | [],k=>by rw [cg_nil];simp
 | p::ps,k=>by
  have e:¬(0<p/\p<=(0:Int)/\(b=true->0<k)):=fun z=>by omega
  rw [cg_cons,cg_zero ps k,if_neg e];exact Int.add_zero _
theorem cg_less:∀(ps:List Int) (k:Nat) (n:Int),n<(k:Int)->cg true ps k n=0
 | [],k,n,h=>by rw [cg_nil,if_neg (fun z=>by have:=z.2 rfl;omega)]
 | p::ps,k,n,h=>by
  refine cg_ind (b:=true) (p:=p) (ps:=ps) (Q:=fun k n=>n<(k:Int)->cg true (p::ps) k n=0) (fun k n ih h=>?_) k n h
  rw [cg_cons,cg_less ps k n h]
  split
  ·rename_i z
   have k0:=z.2.2 rfl
   rw [ih z.1 z.2.1 z.2.2 (by omega)];rfl
  ·rfl
theorem cg_more {m:Int} (m0:0<=m):∀(ps:List Int),(∀x∈ps,x<=m)->∀(k:Nat) (n:Int),m * (k:Int)<n->cg true ps k n=0
 | [],hp,k,n,h=>by
  have:0<=m * (k:Int):=Int.mul_nonneg m0 (by omega)
  rw [cg_nil,if_neg (by omega)]
 | p::ps,hp,k,n,h=>by
  have hpm:p<=m:=hp p (by simp)
  refine cg_ind (b:=true) (p:=p) (ps:=ps) (Q:=fun k n=>m * (k:Int)<n->cg true (p::ps) k n=0) (fun k n ih h=>?_) k n h
  rw [cg_cons,cg_more m0 ps (fun x hx=>hp x (by simp [hx])) k n h]
  split
  ·rename_i z
   have k0:=z.2.2 rfl
   obtain ⟨j,rfl⟩:∃j,k=j+1:=⟨k - 1,by omega⟩
   have e:m * ((j+1:Nat):Int)=m * (j:Int)+m:=by rw [Int.natCast_add,Int.mul_add];simp
   rw [ih z.1 z.2.1 z.2.2 (by rw [Nat.add_sub_cancel];omega)];rfl
  ·rfl
theorem cg_k0 (ps:List Int) (n:Int):cg true ps 0 n=if n=0 then 1 else 0:=by
 by_cases h:n=0
 ·subst h;rw [cg_zero];simp
 ·rw [if_neg h]
  by_cases h0:n<0
  ·exact cg_neg _ _ _ h0
  ·induction ps with
   | nil=>rw [cg_nil,if_neg (by omega)]
   | cons p ps ih=>rw [cg_cons,ih,if_neg (fun z=>by have:=z.2.2 rfl;omega)];rfl
theorem cg_step {p:Int} {ps:List Int} {s:Nat} {t:Int} (p0:0<p) (h:p<=t):cg true (p::ps) (s+1) t=cg true ps (s+1) t+cg true (p::ps) s (t - p):=by
 rw [cg_cons,if_pos ⟨p0,h,fun _=>Nat.succ_pos _⟩];rfl
theorem cg_lo {p:Int} {ps:List Int} {s:Nat} {t:Int} (p0:0<p) (h:t<p+(s:Int)):cg true (p::ps) (s+1) t=cg true ps (s+1) t:=by
 by_cases z:p<=t
 ·rw [cg_step p0 z,cg_less _ s (t - p) (by omega),Int.add_zero]
 ·rw [cg_cons,if_neg (by omega),Int.add_zero]
theorem cg_hi {p:Int} {ps:List Int} {s:Nat} {t:Int} (p0:0<p) (hp:∀x∈ps,x<=p) (h:p * ((s:Int)+1)<t):cg true (p::ps) (s+1) t=cg true ps (s+1) t:=by
 have h':p * ((s+1:Nat):Int)<t:=by simpa using h
 rw [cg_more (m:=p) (by omega) (p::ps) (fun x hx=>by rcases List.mem_cons.mp hx with z|z;omega;exact hp x z) (s+1) t h',cg_more (m:=p) (by omega) ps hp (s+1) t h']
def at2 (ms:List (List Int)) (s t:Nat):Option Int:=match ms[s]? with
 | some r=>r[t]?
 | none=>none
theorem at2_some {ms:List (List Int)} {s t:Nat} {v:Int} (h:at2 ms s t=some v):∃r,ms[s]? = some r/\r[t]? = some v:=by
 unfold at2 at h
 cases e:ms[s]? with
 | none=>rw [e] at h;cases h
 | some r=>rw [e] at h;exact ⟨r,rfl,h⟩
theorem at2_of {ms:List (List Int)} {s t:Nat} {r:List Int} (h:ms[s]? = some r):at2 ms s t=r[t]?:=by unfold at2;rw [h]
theorem at2_set {ms:List (List Int)} {s0 t0:Nat} {r:List Int} {v:Int} (h:ms[s0]? = some r) (ht:t0<r.length) (s t:Nat):at2 (ms.set s0 (r.set t0 v)) s t=if s=s0/\t=t0 then some v else at2 ms s t:=by
 obtain ⟨hl,_⟩:=List.getElem?_eq_some_iff.mp h
 by_cases hs:s=s0
 ·subst hs
  rw [at2_of (r:=r.set t0 v) (by rw [List.getElem?_set_self hl]),at2_of h]
  by_cases z:t=t0
  ·subst z;rw [List.getElem?_set_self ht,if_pos ⟨rfl,rfl⟩]
  ·rw [List.getElem?_set_ne (Ne.symm z),if_neg (fun y=>z y.2)]
 ·rw [if_neg (fun y=>hs y.1)]
  unfold at2
  rw [List.getElem?_set_ne (Ne.symm hs)]
structure Shape (N K:Nat) (ms:List (List Int)):Prop where
 len:K<ms.length
 row:∀(s:Nat) (r:List Int),ms[s]? = some r->N<r.length
theorem Shape.set {N K s t:Nat} {ms:List (List Int)} {r:List Int} {v:Int} (h:Shape N K ms) (hr:ms[s]? = some r):Shape N K (ms.set s (r.set t v)):=by
 refine ⟨by rw [List.length_set];exact h.len,fun i r' e=>?_⟩
 by_cases z:i=s
 ·subst z
  rw [List.getElem?_set_self (List.getElem?_eq_some_iff.mp hr).1] at e
  cases e
  rw [List.length_set];exact h.row i r hr
 ·rw [List.getElem?_set_ne (Ne.symm z)] at e
  exact h.row i r' e
structure Tab (ps:List Int) (N K:Nat) (ms:List (List Int)):Prop where
 shp:Shape N K ms
 val:∀s t:Nat,s<=K->t+K<=N+s->at2 ms s t=some (cg true ps s t)
structure TabI (p:Int) (ps:List Int) (N K i:Nat) (ms:List (List Int)):Prop where
 shp:Shape N K ms
 val:∀s t:Nat,s<=K->t+K<=N+s->at2 ms s t=some (cg true (if s<=i then p::ps else ps) s t)
structure TabJ (p:Int) (ps:List Int) (N K i:Nat) (c:Int) (ms:List (List Int)):Prop where
 shp:Shape N K ms
 val:∀s t:Nat,s<=K->t+K<=N+s->at2 ms s t=some (cg true (if s<=i\/(s=i+1/\(t:Int)<c) then p::ps else ps) s t)
section
variable {p:Int} {ps:List Int} {N K i:Nat} {c:Int} {ms:List (List Int)}
theorem Tab.start (h:Tab ps N K ms):TabI p ps N K 0 ms:=⟨h.shp,fun s t h1 h2=>by
 rw [h.val s t h1 h2]
 by_cases z:s<=0
 ·have:s=0:=by omega
  subst this
  rw [if_pos z,cg_k0,cg_k0]
 ·rw [if_neg z]⟩
theorem TabI.fin (h:TabI p ps N K K ms):Tab (p::ps) N K ms:=⟨h.shp,fun s t h1 h2=>by rw [h.val s t h1 h2,if_pos h1]⟩
theorem TabI.go (p0:0<p) (h:TabI p ps N K i ms):TabJ p ps N K i (p+(i:Int)) ms:=⟨h.shp,fun s t h1 h2=>by
 rw [h.val s t h1 h2]
 by_cases z:s<=i
 ·rw [if_pos z,if_pos (.inl z)]
 ·rw [if_neg z]
  by_cases y:s=i+1/\(t:Int)<p+(i:Int)
  ·obtain ⟨rfl,y2⟩:=y
   rw [if_pos (.inr ⟨rfl,y2⟩),cg_lo p0 y2]
  ·rw [if_neg (by omega)]⟩
theorem TabJ.step {r:List Int} {t0:Nat} {v:Int} (p0:0<p) (h:TabJ p ps N K i c ms) (hK:i+1<=K) (hc:c=(t0:Int)) (hp:p<=c) (hb:t0+K<=N+(i+1)) (hr:ms[i+1]? = some r) (hv:v=cg true ps (i+1) c+cg true (p::ps) i (c - p)) :
  TabJ p ps N K i (c+1) (ms.set (i+1) (r.set t0 v)):=by
 subst hc
 have ht:t0<r.length:=by have:=h.shp.row _ r hr;omega
 refine ⟨h.shp.set hr,fun s t h1 h2=>?_⟩
 rw [at2_set hr ht]
 by_cases z:s=i+1/\t=t0
 ·obtain ⟨rfl,rfl⟩:=z
  rw [if_pos ⟨rfl,rfl⟩,if_pos (.inr ⟨rfl,by omega⟩),hv,cg_step p0 hp]
 ·rw [if_neg z,h.val s t h1 h2]
  by_cases y:s<=i\/(s=i+1/\(t:Int)<(t0:Int))
  ·rw [if_pos y,if_pos (by omega)]
  ·rw [if_neg y,if_neg (by omega)]
theorem TabJ.read (h:TabJ p ps N K i c ms) (p0:0<p) (hK:i+1<=K) {t0:Nat} (hc:c=(t0:Int)) (hp:p+(i:Int)<=c) (hb:t0+K<=N+(i+1)) :
  at2 ms (i+1) t0=some (cg true ps (i+1) c)/\at2 ms i (c - p).toNat=some (cg true (p::ps) i (c - p)):=by
 subst hc
 refine ⟨?_,?_⟩
 ·rw [h.val (i+1) t0 hK hb,if_neg (by omega)]
 ·have e:(((t0:Int) - p).toNat:Int)=(t0:Int) - p:=by omega
  rw [h.val i _ (by omega) (by omega),if_pos (.inl (Nat.le_refl _)),e]
theorem TabJ.fin (h:TabJ p ps N K i c ms) (p0:0<p) (hps:∀x∈ps,x<=p) (hc:∀t:Nat,t+K<=N+(i+1)->c<=(t:Int)->p * ((i:Int)+1)<(t:Int)):TabI p ps N K (i+1) ms:=⟨h.shp,fun s t h1 h2=>by
 rw [h.val s t h1 h2]
 by_cases z:s<=i\/(s=i+1/\(t:Int)<c)
 ·rw [if_pos z,if_pos (by omega)]
 ·rw [if_neg z]
  by_cases y:s<=i+1
  ·have e:s=i+1:=by omega
   subst e
   rw [if_pos y,cg_hi p0 hps (hc t h2 (by omega))]
  ·rw [if_neg y]⟩
theorem Tab.nil:Tab [] N K (([1]++List.replicate N 0)::List.replicate K (List.replicate (N+1) 0)):=by
 refine ⟨⟨by simp,fun s r e=>?_⟩,fun s t h1 h2=>?_⟩
 ·cases s with
  | zero=>simp at e;subst e;simp
  | succ s=>
   rw [List.getElem?_cons_succ,List.getElem?_replicate] at e
   split at e
   ·cases e;simp
   ·cases e
 ·rw [cg_nil]
  cases s with
  | zero=>
   rw [at2_of (r:=[1]++List.replicate N 0) rfl]
   cases t with
   | zero=>simp
   | succ t=>
    have:t<N:=by omega
    simp [List.getElem?_replicate,this]
    omega
  | succ s=>
   rw [at2_of (r:=List.replicate (N+1) 0) (by rw [List.getElem?_cons_succ,List.getElem?_replicate,if_pos (by omega)])]
   rw [List.getElem?_replicate,if_pos (by omega),if_neg (fun z=>by have:=z.2 rfl;omega)]
end
theorem ca_step {p:Int} {ps:List Int} {t:Int} (p0:0<p) (h:p<=t):cg false (p::ps) 0 t=cg false ps 0 t+cg false (p::ps) 0 (t - p):=by
 rw [cg_cons,if_pos ⟨p0,h,fun z=>by cases z⟩]
theorem ca_lo {p:Int} {ps:List Int} {t:Int} (h:t<p):cg false (p::ps) 0 t=cg false ps 0 t:=by
 rw [cg_cons,if_neg (by omega),Int.add_zero]
structure Cnt (ps:List Int) (N:Nat) (xs:List Int):Prop where
 len:xs.length=N+1
 val:∀t:Nat,t<=N->xs[t]? = some (cg false ps 0 t)
structure CntJ (p:Int) (ps:List Int) (N:Nat) (c:Int) (xs:List Int):Prop where
 len:xs.length=N+1
 val:∀t:Nat,t<=N->xs[t]? = some (cg false (if (t:Int)<c then p::ps else ps) 0 t)
section
variable {p:Int} {ps:List Int} {N:Nat} {c:Int} {xs:List Int}
theorem Cnt.nil:Cnt [] N ([1]++List.replicate N 0):=⟨by simp,fun t ht=>by
 rw [cg_nil]
 cases t with
 | zero=>simp
 | succ t=>
  have:t<N:=by omega
  simp [List.getElem?_replicate,this]
  omega⟩
theorem Cnt.go (h:Cnt ps N xs):CntJ p ps N p xs:=⟨h.len,fun t ht=>by
 rw [h.val t ht]
 by_cases z:(t:Int)<p
 ·rw [if_pos z,ca_lo z]
 ·rw [if_neg z]⟩
theorem CntJ.fin (h:CntJ p ps N c xs) (hc:(N:Int)<c):Cnt (p::ps) N xs:=⟨h.len,fun t ht=>by rw [h.val t ht,if_pos (by omega)]⟩
theorem CntJ.read (h:CntJ p ps N c xs) (p0:0<p) (hp:p<=c) (hc:c<=(N:Int)):xs[c.toNat]? = some (cg false ps 0 c)/\xs[(c - p).toNat]? = some (cg false (p::ps) 0 (c - p)):=by
 have e1:((c.toNat:Nat):Int)=c:=by omega
 have e2:(((c - p).toNat:Nat):Int)=c - p:=by omega
 refine ⟨?_,?_⟩
 ·rw [h.val _ (by omega),e1,if_neg (by omega)]
 ·rw [h.val _ (by omega),e2,if_pos (by omega)]
theorem CntJ.step (h:CntJ p ps N c xs) (p0:0<p) (hp:p<=c) (hc:c<=(N:Int)):CntJ p ps N (c+1) (xs.set c.toNat (cg false ps 0 c+cg false (p::ps) 0 (c - p))):=⟨by rw [List.length_set];exact h.len,fun t ht=>by
 have hl:=h.len
 by_cases z:t=c.toNat
 ·subst z
  have e1:((c.toNat:Nat):Int)=c:=by omega
  rw [List.getElem?_set_self (by omega),e1,if_pos (by omega),ca_step p0 hp]
 ·rw [List.getElem?_set_ne (Ne.symm z),h.val t ht]
  by_cases y:(t:Int)<c
  ·rw [if_pos y,if_pos (by omega)]
  ·rw [if_neg y,if_neg (by omega)]⟩
end
def lw (ps:List Int):Nat->Int->Int->List (List Int)
 | 0,n,_=>if n=0 then [[]] else []
 | f+1,n,m=>if n=0 then [[]] else ps.flatMap fun p=>if p<=m/\p<=n then (lw ps f (n - p) p).map fun r=>p::r else []
structure TabO (p:Int) (ps:List Int) (N K i:Nat) (ms:List (List Int)):Prop where
 shp:Shape N K ms
 val:∀s t:Nat,s<=K->t+K<=N+s->at2 ms s t=some (cg true (if s+i<=K then p::ps else ps) s t)
structure TabP (p:Int) (ps:List Int) (N K i:Nat) (c:Int) (ms:List (List Int)):Prop where
 shp:Shape N K ms
 val:∀s t:Nat,s<=K->t+K<=N+s->at2 ms s t=some (cg true (if s<=i\/(s=i+1/\c<=(t:Int)) then p::ps else ps) s t)
section
variable {p:Int} {ps:List Int} {N K i:Nat} {c:Int} {ms:List (List Int)}
theorem Tab.startO (h:Tab (p::ps) N K ms):TabO p ps N K 0 ms:=⟨h.shp,fun s t h1 h2=>by rw [h.val s t h1 h2,if_pos (by omega)]⟩
theorem TabO.fin (h:TabO p ps N K K ms):Tab ps N K ms:=⟨h.shp,fun s t h1 h2=>by
 rw [h.val s t h1 h2]
 by_cases z:s+K<=K
 ·have:s=0:=by omega
  subst this
  rw [if_pos z,cg_k0,cg_k0]
 ·rw [if_neg z]⟩
theorem TabO.go {j:Nat} (p0:0<p) (h:TabO p ps N K j ms) (hj:i+1+j=K):TabP p ps N K i (p+(i:Int)) ms:=⟨h.shp,fun s t h1 h2=>by
 rw [h.val s t h1 h2]
 by_cases z:s<=i
 ·rw [if_pos (by omega),if_pos (.inl z)]
 ·by_cases y:s=i+1
  ·subst y
   rw [if_pos (by omega)]
   by_cases x:p+(i:Int)<=(t:Int)
   ·rw [if_pos (.inr ⟨rfl,x⟩)]
   ·rw [if_neg (by omega),cg_lo p0 (by omega)]
  ·rw [if_neg (by omega),if_neg (by omega)]⟩
theorem TabP.read (h:TabP p ps N K i c ms) (hK:i+1<=K) {t0:Nat} (hc:c=(t0:Int)) (p0:0<p) (hp:p+(i:Int)<=c) (hb:t0+K<=N+(i+1)) :
  at2 ms (i+1) t0=some (cg true (p::ps) (i+1) c)/\at2 ms i (c - p).toNat=some (cg true (p::ps) i (c - p)):=by
 subst hc
 refine ⟨?_,?_⟩
 ·rw [h.val (i+1) t0 hK hb,if_pos (.inr ⟨rfl,by omega⟩)]
 ·have e:(((t0:Int) - p).toNat:Int)=(t0:Int) - p:=by omega
  rw [h.val i _ (by omega) (by omega),if_pos (.inl (Nat.le_refl _)),e]
theorem TabP.step {r:List Int} {t0:Nat} {v:Int} (p0:0<p) (h:TabP p ps N K i c ms) (hK:i+1<=K) (hc:c=(t0:Int)) (hp:p<=c) (hb:t0+K<=N+(i+1)) (hr:ms[i+1]? = some r) (hv:v=cg true (p::ps) (i+1) c - cg true (p::ps) i (c - p)) :
  TabP p ps N K i (c+1) (ms.set (i+1) (r.set t0 v)):=by
 subst hc
 have ht:t0<r.length:=by have:=h.shp.row _ r hr;omega
 refine ⟨h.shp.set hr,fun s t h1 h2=>?_⟩
 rw [at2_set hr ht]
 by_cases z:s=i+1/\t=t0
 ·obtain ⟨rfl,rfl⟩:=z
  rw [if_pos ⟨rfl,rfl⟩,if_neg (by omega),hv,cg_step p0 hp,Int.add_sub_cancel]
 ·rw [if_neg z,h.val s t h1 h2]
  by_cases y:s<=i\/(s=i+1/\(t0:Int)<=(t:Int))
  ·rw [if_pos y,if_pos (by omega)]
  ·rw [if_neg y,if_neg (by omega)]
theorem TabP.fin {j:Nat} (h:TabP p ps N K i c ms) (hj:i+(j+1)=K) (p0:0<p) (hps:∀x∈ps,x<=p) (hc:∀t:Nat,t+K<=N+(i+1)->c<=(t:Int)->p * ((i:Int)+1)<(t:Int)):TabO p ps N K (j+1) ms:=⟨h.shp,fun s t h1 h2=>by
 rw [h.val s t h1 h2]
 by_cases z:s<=i
 ·rw [if_pos (.inl z),if_pos (by omega)]
 ·by_cases y:s=i+1/\c<=(t:Int)
  ·obtain ⟨rfl,y⟩:=y
   rw [if_pos (.inr ⟨rfl,y⟩),if_neg (by omega),cg_hi p0 hps (hc t h2 y)]
  ·rw [if_neg (by omega),if_neg (by omega)]⟩
theorem Tab.less {N' K':Nat} (h:Tab ps N K ms) (hN:N'+K<=N+K') (hK:K'<=K):Tab ps N' K' ms:=⟨⟨by have:=h.shp.len;omega,fun s r e=>by have:=h.shp.row s r e;omega⟩,fun s t h1 h2=>h.val s t (by omega) (by omega)⟩
end
def cf (p:Int) (ps:List Int) (K:Nat) (N:Int):Int:=if K=0\/N<p then 0 else cg true (p::ps) (K - 1) (N - p)
theorem cf_cg {p:Int} {ps:List Int} {K:Nat} {N:Int} (p0:0<p):cg true (p::ps) K N=cg true ps K N+cf p ps K N:=by
 rw [cg_cons]
 unfold cf
 by_cases h:K=0\/N<p
 ·rw [if_pos h,if_neg (fun z=>by have:=z.2.2 rfl;omega)]
 ·rw [if_neg h,if_pos ⟨p0,by omega,fun _=>by omega⟩]
theorem cf_nonneg (p:Int) (ps:List Int) (K:Nat) (N:Int):0<=cf p ps K N:=by
 unfold cf
 split
 ·omega
 ·exact cg_nonneg _ _ _
def wat:List Int->Nat->Int->Int->List Int
 | [],_,_,_=>[]
 | p::ps,K,N,pl=>if h:0<K/\pl<cf p ps K N then p::wat (p::ps) (K - 1) (N - p) pl else wat ps K N (pl - cf p ps K N)
termination_by ps K=>(ps.length,K)
decreasing_by
 ·apply Prod.Lex.right;omega
 ·apply Prod.Lex.left;simp
theorem wat_yes {p:Int} {ps:List Int} {K:Nat} {N pl:Int} (h:0<K/\pl<cf p ps K N):wat (p::ps) K N pl=p::wat (p::ps) (K - 1) (N - p) pl:=by rw [wat,dif_pos h]
theorem wat_no {p:Int} {ps:List Int} {K:Nat} {N pl:Int} (h:¬(0<K/\pl<cf p ps K N)):wat (p::ps) K N pl=wat ps K N (pl - cf p ps K N):=by rw [wat,dif_neg h]
theorem wat_nil {K:Nat} {N pl:Int}:wat [] K N pl=[]:=by rw [wat]
def rk:List Int->Int->List Int->Int
 | [],_,_=>0
 | p::ps,N,[]=>rk ps N []
 | p::ps,N,q::L=>if q=p then rk (p::ps) (N - p) L else cf p ps (L.length+1) N+rk ps N (q::L)
termination_by ps _ L=>(ps.length,L.length)
decreasing_by
 ·apply Prod.Lex.left;simp
 ·apply Prod.Lex.right;simp
 ·apply Prod.Lex.left;simp
theorem rk_nil {N:Int} {L:List Int}:rk [] N L=0:=by rw [rk]
theorem rk_emp {p:Int} {ps:List Int} {N:Int}:rk (p::ps) N []=rk ps N []:=by rw [rk]
theorem rk_yes {p:Int} {ps:List Int} {N:Int} {L:List Int}:rk (p::ps) N (p::L)=rk (p::ps) (N - p) L:=by rw [rk,if_pos rfl]
theorem rk_no {p q:Int} {ps:List Int} {N:Int} {L:List Int} (h:q≠p):rk (p::ps) N (q::L)=cf p ps (L.length+1) N+rk ps N (q::L):=by rw [rk,if_neg h]
structure Wy (ps:List Int) (K:Nat) (N:Int) (L:List Int):Prop where
 len:L.length=K
 sum:L.sum=N
 mem:∀x∈L,x∈ps
 fall:L.Pairwise (fun x y=>y<=x)
theorem wat_ok:∀(m:Nat) (ps:List Int) (K:Nat) (N pl:Int),ps.length+K<=m->(∀x∈ps,(0:Int)<x)->ps.Pairwise (fun x y=>y<x)->0<=pl->pl<cg true ps K N->Wy ps K N (wat ps K N pl)/\rk ps N (wat ps K N pl)=pl
 | m,[],K,N,pl,_,_,_,h0,h1=>by
  rw [cg_nil] at h1
  by_cases z:N=0/\(true=true->K=0)
  ·rw [if_pos z] at h1
   obtain ⟨z1,z2⟩:=z
   have k0:=z2 rfl
   subst z1 k0
   rw [wat_nil,rk_nil]
   exact ⟨⟨rfl,rfl,fun x hx=>by simp at hx,.nil⟩,by omega⟩
  ·rw [if_neg z] at h1;omega
 | 0,p::ps,K,N,pl,hm,_,_,_,_=>by simp at hm
 | m+1,p::ps,K,N,pl,hm,hp,hs,h0,h1=>by
  have p0:=hp p (by simp)
  rw [cf_cg p0] at h1
  rw [List.length_cons] at hm
  rw [List.pairwise_cons] at hs
  by_cases c:0<K/\pl<cf p ps K N
  ·rw [wat_yes c]
   have hcf:cf p ps K N=cg true (p::ps) (K - 1) (N - p):=by
    have h2:=c.2
    unfold cf at h2 ⊢
    by_cases z:K=0\/N<p
    ·rw [if_pos z] at h2;omega
    ·rw [if_neg z]
   obtain ⟨w,r⟩:=wat_ok m (p::ps) (K - 1) (N - p) pl (by rw [List.length_cons];omega) hp (List.pairwise_cons.mpr hs) h0 (by rw [<-hcf];exact c.2)
   refine ⟨⟨by rw [List.length_cons,w.len];omega,by rw [List.sum_cons,w.sum];omega,fun x hx=>?_,List.pairwise_cons.mpr ⟨fun x hx=>?_,w.fall⟩⟩,by rw [rk_yes];exact r⟩
   ·rcases List.mem_cons.mp hx with rfl|hx
    ·simp
    ·exact w.mem x hx
   ·rcases List.mem_cons.mp (w.mem x hx) with rfl|hx
    ·exact Int.le_refl _
    ·have:=hs.1 x hx;omega
  ·rw [wat_no c]
   have nn:=cf_nonneg p ps K N
   have h2:cf p ps K N<=pl:=by
    by_cases z:0<K
    ·have:¬pl<cf p ps K N:=fun y=>c ⟨z,y⟩
     omega
    ·have:cf p ps K N=0:=by unfold cf;rw [if_pos (by omega)]
     omega
   obtain ⟨w,r⟩:=wat_ok m ps K N (pl - cf p ps K N) (by omega) (fun x hx=>hp x (by simp [hx])) hs.2 (by omega) (by omega)
   refine ⟨⟨w.len,w.sum,fun x hx=>by simp [w.mem x hx],w.fall⟩,?_⟩
   generalize hL:wat ps K N (pl - cf p ps K N)=L at w r
   cases L with
   | nil=>
    rw [rk_emp,r]
    have:K=0:=w.len.symm
    have:cf p ps K N=0:=by unfold cf;rw [if_pos (by omega)]
    omega
   | cons q L=>
    have hq:q≠p:=fun z=>by have:=hs.1 q (w.mem q (by simp));omega
    rw [rk_no hq,r]
    have:L.length+1=K:=w.len
    rw [this];omega
theorem dd_digs {b d:Int} (hb:2<=b) (d1:1<=d) (d2:d<b) (k:Nat):Digs b (d * b ^ (k+1)+d) (d::(List.replicate k 0++[d])):=
 ⟨fun e hd=>by
  rcases List.mem_cons.mp hd with rfl|hd
  ·omega
  ·rcases List.mem_append.mp hd with hd|hd
   ·have:=List.eq_of_mem_replicate hd;omega
   ·rw [List.mem_singleton] at hd;omega,by
  rw [val_cons,val_snoc,val_zeros,List.length_append,List.length_replicate,List.length_singleton];omega,by simp,.inr (by simp;omega)⟩
theorem range_getD (xs:List Int):(List.range xs.length).map (fun i=>xs.getD i 0)=xs:=by
 apply List.ext_getElem?
 intro i
 rw [List.getElem?_map]
 by_cases h:i<xs.length
 ·rw [List.getElem?_range h,List.getElem?_eq_getElem h]
  show some (xs.getD i 0)=some xs[i]
  rw [List.getD_eq_getElem?_getD,List.getElem?_eq_getElem h];rfl
 ·rw [List.getElem?_eq_none (by simpa using h),List.getElem?_eq_none (by omega)];rfl
theorem filter_range {α:Type} (t:Int->Bool) (f:Int->α) (xs:List Int):((List.range xs.length).filter (fun i=>t (xs.getD i 0))).map (fun i=>f (xs.getD i 0))=(xs.filter t).map f:=by
 have h:(xs.filter t).map f=(((List.range xs.length).map (fun i=>xs.getD i 0)).filter t).map f:=by rw [range_getD]
 rw [h,List.filter_map,List.map_map]
 rfl
inductive Sm (b:Int):Nat->Int->Prop
 | zero:Sm b 0 0
 | add {k:Nat} {n p:Int}:Sm b k n->1<=p->mir b p=true->Sm b (k+1) (n+p)
theorem Sm.nn {b n:Int} {k:Nat} (h:Sm b k n):0<=n:=by
 induction h with
 | zero=>omega
 | add _ h1 _ ih=>omega
theorem Sm.none {b n:Int} (h:Sm b 0 n):n=0:=by cases h;rfl
theorem Sm.cut {b n:Int} {k:Nat} (h:Sm b (k+1) n):∃p,1<=p/\mir b p=true/\p<=n/\Sm b k (n - p):=by
 cases h with
 | @add _ m p h1 h2 h3=>
  have:=h1.nn
  exact ⟨p,h2,h3,by omega,by rw [Int.add_sub_cancel];exact h1⟩
theorem sm_ones {b:Int} (hb:2<=b):∀n:Nat,Sm b n (n:Int)
 | 0=>.zero
 | n+1=>by
  have:=Sm.add (sm_ones hb n) (show (1:Int)<=1 by decide) (mir_small (by decide) (by omega))
  exact this
theorem least {P:Nat->Prop}:∀n:Nat,P n->∃k,k<=n/\P k/\∀j,j<k->¬P j
 | 0,h=>⟨0,Nat.le_refl _,h,fun j hj=>absurd hj (by omega)⟩
 | n+1,h=>by
  by_cases hx:∃m,m<=n/\P m
  ·obtain ⟨m,hm,hp⟩:=hx
   obtain ⟨k,h1,h2,h3⟩:=least m hp
   exact ⟨k,by omega,h2,h3⟩
  ·exact ⟨n+1,Nat.le_refl _,h,fun j hj hp=>hx ⟨j,by omega,hp⟩⟩
theorem nd_ex {b n:Int} (hb:2<=b) (hn:0<=n):∃k,k<=n.toNat/\Sm b k n/\∀j,j<k->¬Sm b j n:=by
 have h:=sm_ones hb n.toNat
 rw [show ((n.toNat:Nat):Int)=n by omega] at h
 exact least n.toNat h
noncomputable def nd (b n:Int):Nat:=open Classical in if h:∃k,Sm b k n/\∀j,j<k->¬Sm b j n then h.choose else 0
theorem nd_spec {b n:Int} (hb:2<=b) (hn:0<=n):Sm b (nd b n) n/\(∀j,j<nd b n->¬Sm b j n):=by
 obtain ⟨k,h1,h2,h3⟩:=nd_ex hb hn
 have hx:∃k,Sm b k n/\∀j,j<k->¬Sm b j n:=⟨k,h2,h3⟩
 unfold nd
 rw [dif_pos hx]
 exact hx.choose_spec
theorem nd_min {b n:Int} {k:Nat} (hb:2<=b) (h:Sm b k n):nd b n<=k:=by
 have s:=nd_spec hb h.nn
 by_cases z:nd b n<=k
 ·exact z
 ·exact absurd h (s.2 k (by omega))
theorem nd_le {b n:Int} (hb:2<=b) (hn:0<=n):(nd b n:Int)<=n:=by
 have h:=sm_ones hb n.toNat
 rw [show ((n.toNat:Nat):Int)=n by omega] at h
 have:=nd_min hb h
 omega
theorem nd_zero {b:Int} (hb:2<=b):nd b 0=0:=by have:=nd_min hb (Sm.zero (b:=b));omega
theorem nd_pos {b n:Int} (hb:2<=b) (hn:1<=n):1<=nd b n:=by
 by_cases z:1<=nd b n
 ·exact z
 ·have s:=(nd_spec hb (show 0<=n by omega)).1
  rw [show nd b n=0 by omega] at s
  have:=s.none
  omega
theorem nd_one {b n:Int} (hb:2<=b) (hn:1<=n):nd b n<=1 ↔ mir b n=true:=by
 constructor
 ·intro h
  have p:=nd_pos hb hn
  have s:=(nd_spec hb (show 0<=n by omega)).1
  rw [show nd b n=0+1 by omega] at s
  obtain ⟨q,h1,h2,h3,h4⟩:=s.cut
  have:=h4.none
  rw [show n=q by omega];exact h2
 ·intro h
  have:=nd_min hb (Sm.add (Sm.zero (b:=b)) hn h)
  rw [Int.zero_add] at this
  exact this
theorem nd_down {b n:Int} {k:Nat} (hb:2<=b) (hn:0<=n) (h:nd b n=k+1):∃p,1<=p/\mir b p=true/\p<=n/\nd b (n - p)=k:=by
 have s:=nd_spec hb hn
 rw [h] at s
 obtain ⟨p,h1,h2,h3,h4⟩:=s.1.cut
 refine ⟨p,h1,h2,h3,?_⟩
 have m:=nd_min hb h4
 by_cases z:nd b (n - p)=k
 ·exact z
 ·have s2:=(nd_spec hb h4.nn).1
  have s3:=Sm.add s2 h1 h2
  rw [Int.sub_add_cancel] at s3
  exact absurd s3 (s.2 _ (by omega))
theorem nd_up {b n p:Int} (hb:2<=b) (h1:1<=p) (h2:mir b p=true) (h3:p<=n):nd b n<=nd b (n - p)+1:=by
 have s2:=(nd_spec hb (show 0<=n - p by omega)).1
 have s3:=Sm.add s2 h1 h2
 rw [Int.sub_add_cancel] at s3
 exact nd_min hb s3
noncomputable def tabl (b:Int) (N:Nat):List Int:=(List.range (N+1)).map fun (i:Nat)=>((nd b (i:Int):Nat):Int)
noncomputable def lv (b:Int) (N k:Nat):List Int:=((List.range (N+1)).map fun (i:Nat)=>(i:Int)).filter fun i=>decide (k<nd b i)
theorem mem_lv {b x:Int} {N k:Nat}:x∈lv b N k ↔ (0<=x/\x<=(N:Int))/\k<nd b x:=by
 unfold lv
 rw [List.mem_filter,List.mem_map]
 constructor
 ·rintro ⟨⟨i,h1,rfl⟩,h2⟩
  rw [List.mem_range] at h1
  exact ⟨⟨by omega,by omega⟩,of_decide_eq_true h2⟩
 ·rintro ⟨⟨h1,h2⟩,h3⟩
  exact ⟨⟨x.toNat,List.mem_range.mpr (by omega),by omega⟩,decide_eq_true h3⟩
theorem lv_next (b:Int) (N k:Nat):(lv b N k).filter (fun i=>decide (k+1<nd b i))=lv b N (k+1):=by
 unfold lv
 rw [List.filter_filter]
 congr 1
 funext i
 by_cases h:k+1<nd b i
 ·simp [h,show k<nd b i by omega]
 ·simp [h]
theorem lv_len (b:Int) (N k:Nat):(lv b N k).length<=N+1:=by
 unfold lv
 have:=List.length_filter_le (fun i=>decide (k<nd b i)) ((List.range (N+1)).map fun (i:Nat)=>(i:Int))
 rw [List.length_map,List.length_range] at this
 exact this
structure Way (b:Int) (m:Nat) (n:Int) (L:List Int):Prop where
 len:L.length=m
 sum:L.sum=n
 mem:∀x∈L,1<=x/\mir b x=true
 fall:L.Pairwise (fun x y=>y<=x)
theorem sm_of {b:Int}:∀{L:List Int},(∀x∈L,1<=x/\mir b x=true)->Sm b L.length L.sum
 | [],_=>.zero
 | x::r,h=>by
  have hx:=h x List.mem_cons_self
  have:=Sm.add (sm_of (L:=r) fun y hy=>h y (List.mem_cons_of_mem _ hy)) hx.1 hx.2
  rw [List.length_cons,List.sum_cons,Int.add_comm]
  exact this
theorem Way.sm {b n:Int} {m:Nat} {L:List Int} (h:Way b m n L):Sm b m n:=by
 have:=sm_of h.mem
 rw [h.len,h.sum] at this;exact this
theorem way_ins {b p:Int} (p1:1<=p) (pm:mir b p=true):∀{L:List Int} {m:Nat} {n:Int},Way b m n L->∃L',Way b (m+1) (n+p) L'/\∀y∈L',y=p\/y∈L
 | [],m,n,h=>by
  refine ⟨[p],⟨by have:=h.len;simp at this;simp [this],by have:=h.sum;simp at this;simp [<-this],fun x hx=>?_,by simp⟩,fun y hy=>by simp at hy;exact .inl hy⟩
  simp at hx;subst hx;exact ⟨p1,pm⟩
 | x::r,m,n,h=>by
  have hf:=List.pairwise_cons.mp h.fall
  by_cases hx:x<=p
  ·refine ⟨p::x::r,⟨by simp [<-h.len],by rw [List.sum_cons,h.sum];omega,fun y hy=>?_,List.pairwise_cons.mpr ⟨fun y hy=>?_,h.fall⟩⟩,fun y hy=>?_⟩
   ·rcases List.mem_cons.mp hy with rfl|hy
    ·exact ⟨p1,pm⟩
    ·exact h.mem y hy
   ·rcases List.mem_cons.mp hy with rfl|hy
    ·exact hx
    ·have:=hf.1 y hy;omega
   ·rcases List.mem_cons.mp hy with rfl|hy
    ·exact .inl rfl
    ·exact .inr hy
  ·have hr:Way b r.length r.sum r:=⟨rfl,rfl,fun y hy=>h.mem y (List.mem_cons_of_mem _ hy),hf.2⟩
   obtain ⟨L',w',o'⟩:=way_ins p1 pm hr
   have es:=h.sum
   rw [List.sum_cons] at es
   refine ⟨x::L',⟨by rw [List.length_cons,w'.len,<-h.len,List.length_cons],by rw [List.sum_cons,w'.sum];omega,fun y hy=>?_,List.pairwise_cons.mpr ⟨fun y hy=>?_,w'.fall⟩⟩,fun y hy=>?_⟩
   ·rcases List.mem_cons.mp hy with rfl|hy
    ·exact h.mem _ List.mem_cons_self
    ·exact w'.mem y hy
   ·rcases o' y hy with rfl|z
    ·omega
    ·exact hf.1 y z
   ·rcases List.mem_cons.mp hy with rfl|hy
    ·exact .inr List.mem_cons_self
    ·rcases o' y hy with z|z
     ·exact .inl z
     ·exact .inr (List.mem_cons_of_mem _ z)
theorem Sm.way {b n:Int} {m:Nat} (h:Sm b m n):∃L,Way b m n L:=by
 induction h with
 | zero=>exact ⟨[],rfl,rfl,fun x hx=>by simp at hx,.nil⟩
 | add _ p1 pm ih=>
  obtain ⟨L,w⟩:=ih
  obtain ⟨L',w',_⟩:=way_ins p1 pm w
  exact ⟨L',w'⟩
theorem Way.head {b n p:Int} {m:Nat} {L:List Int} (h:Way b (m+1) n (p::L)):Way b m (n - p) L/\1<=p/\mir b p=true/\∀y∈L,y<=p:=by
 have hf:=List.pairwise_cons.mp h.fall
 have es:=h.sum
 rw [List.sum_cons] at es
 have el:=h.len
 rw [List.length_cons] at el
 exact ⟨⟨by omega,by omega,fun y hy=>h.mem y (List.mem_cons_of_mem _ hy),hf.2⟩,(h.mem p List.mem_cons_self).1,(h.mem p List.mem_cons_self).2,hf.1⟩
theorem Way.cons {b n:Int} {m:Nat} {L:List Int} (h:Way b (m+1) n L):∃p r,L=p::r:=by
 cases L with
 | nil=>have:=h.len;simp at this
 | cons p r=>exact ⟨p,r,rfl⟩
theorem sum_le {p:Int}:∀{L:List Int},(∀y∈L,y<=p)->L.sum<=p * (L.length:Int)
 | [],_=>by simp
 | x::r,h=>by
  have ih:=sum_le (L:=r) fun y hy=>h y (List.mem_cons_of_mem _ hy)
  have hx:=h x List.mem_cons_self
  rw [List.sum_cons,List.length_cons]
  have e:p * ((r.length+1:Nat):Int)=p * (r.length:Int)+p:=by push_cast;rw [Int.mul_add,Int.mul_one]
  rw [e];omega
inductive Gt (b:Int):Nat->Int->List Int->Prop
 | nil:Gt b 0 0 []
 | cons {m:Nat} {n p:Int} {L:List Int}:1<=p->mir b p=true->Gt b m (n - p) L->(∀q,p<q->mir b q=true->¬Sm b m (n - q))->Gt b (m+1) n (p::L)
theorem Gt.way {b n:Int} {m:Nat} {L:List Int} (h:Gt b m n L):Way b m n L:=by
 induction h with
 | nil=>exact ⟨rfl,rfl,fun x hx=>by simp at hx,.nil⟩
 | @cons m n p L p1 pm g no ih=>
  refine ⟨by rw [List.length_cons,ih.len],by rw [List.sum_cons,ih.sum];omega,fun x hx=>?_,List.pairwise_cons.mpr ⟨?_,ih.fall⟩⟩
  ·rcases List.mem_cons.mp hx with rfl|hx
   ·exact ⟨p1,pm⟩
   ·exact ih.mem x hx
  ·cases m with
   | zero=>intro y hy;rw [List.length_eq_zero_iff.mp ih.len] at hy;simp at hy
   | succ k=>
    obtain ⟨q,r,rfl⟩:=ih.cons
    obtain ⟨w,q1,qm,qa⟩:=ih.head
    have hq:q<=p:=by
     by_cases z:q<=p
     ·exact z
     ·exfalso
      refine no q (by omega) qm ?_
      have:=Sm.add w.sm p1 pm
      rw [show n - p - q+p=n - q by omega] at this
      exact this
    intro y hy
    rcases List.mem_cons.mp hy with rfl|hy
    ·exact hq
    ·have:=qa y hy;omega
theorem Gt.uniq {b:Int}:∀{m:Nat} {n:Int} {L L':List Int},Gt b m n L->Gt b m n L'->L=L'
 | _,_,_,_,.nil,.nil=>rfl
 | _,_,_,_,.cons (p:=p) p1 pm g no,.cons (p:=p') p1' pm' g' no'=>by
  have e:p=p':=by
   by_cases z:p<p'
   ·exact absurd g'.way.sm (no p' z pm')
   ·by_cases z':p'<p
    ·exact absurd g.way.sm (no' p z' pm)
    ·omega
  subst e
  rw [g.uniq g']
theorem no_way {b n p:Int} {m:Nat} (h:p * ((m+1:Nat):Int)<n) (no:∀q,p<q->q<=n->mir b q=true->¬Sm b m (n - q)):¬Sm b (m+1) n:=fun s=>by
 obtain ⟨L,w⟩:=s.way
 obtain ⟨q,r,rfl⟩:=w.cons
 obtain ⟨w',q1,qm,qa⟩:=w.head
 have h0:=w'.sm.nn
 have hs:=sum_le (p:=q) (L:=q::r) (fun y hy=>by
  rcases List.mem_cons.mp hy with rfl|hy
  ·omega
  ·exact qa y hy)
 rw [w.sum,w.len] at hs
 by_cases z:p<q
 ·exact no q z (by omega) qm w'.sm
 ·have:q * ((m+1:Nat):Int)<=p * ((m+1:Nat):Int):=Int.mul_le_mul_of_nonneg_right (by omega) (by omega)
  omega
theorem sm_none0 {b n:Int} {m:Nat} (h:Sm b m n) (hn:n<=0):m=0:=by
 cases m with
 | zero=>rfl
 | succ k=>
  obtain ⟨p,h1,h2,h3,h4⟩:=h.cut
  have:=h4.nn
  omega
theorem half_part {b n:Int} (hb:2<=b) (hn:1<=n):∃p,1<=p/\p<=n/\mir b p=true/\n - p<=p:=by
 by_cases hs:n<b
 ·exact ⟨n,hn,Int.le_refl _,mir_small (by omega) hs,by omega⟩
 have L1:=ln_pos hb (show 0<=n by omega)
 have lg:=ln_ge hb hn
 have ll:=ln_lt hb (show 0<=n by omega)
 obtain ⟨k,hk⟩:∃k,ln b n=k+2:=by
  refine ⟨ln b n - 2,?_⟩
  by_cases z:ln b n=1
  ·rw [z,pow1] at ll;omega
  ·omega
 rw [hk] at lg ll
 rw [show k+2 - 1=k+1 by omega] at lg
 have pw:b ^ (k+2)=b ^ (k+1) * b:=Int.pow_succ _ _
 have pp:0<b ^ (k+1):=pow_pos' (by omega) _
 -- the first figure
 obtain ⟨d,r,hd,r0,r1⟩:∃d r:Int,n=d * b ^ (k+1)+r/\0<=r/\r<b ^ (k+1):=
  ⟨n / b ^ (k+1),n % b ^ (k+1),by have:=Int.mul_ediv_add_emod n (b ^ (k+1));rw [Int.mul_comm] at this;omega,Int.emod_nonneg _ (by omega),Int.emod_lt_of_pos _ pp⟩
 have d1:1<=d:=by
  by_cases z:1<=d
  ·exact z
  ·have:d * b ^ (k+1)<=0 * b ^ (k+1):=Int.mul_le_mul_of_nonneg_right (by omega) (by omega)
   omega
 have d2:d<b:=by
  by_cases z:d<b
  ·exact z
  ·have:b * b ^ (k+1)<=d * b ^ (k+1):=Int.mul_le_mul_of_nonneg_right (by omega) (by omega)
   rw [pw,Int.mul_comm] at ll
   omega
 have bp:b<=b ^ (k+1):=by
  have:=pow_le (b:=b) (by omega) (show 1<=k+1 by omega)
  rwa [pow1] at this
 have dd:∀e:Int,1<=e->e<b->mir b (e * b ^ (k+1)+e)=true:=fun e e1 e2=>by
  have D:=dd_digs hb e1 e2 k
  have z:=D.fg hb (D.nn hb)
  unfold mir
  rw [decide_eq_true_eq,<-z]
  simp
 have ge:b ^ (k+1)<=d * b ^ (k+1):=by
  have:1 * b ^ (k+1)<=d * b ^ (k+1):=Int.mul_le_mul_of_nonneg_right d1 (by omega)
  omega
 by_cases h1:d<=r
 ·exact ⟨d * b ^ (k+1)+d,by omega,by omega,dd d d1 d2,by omega⟩
 by_cases h2:2<=d
 ·have e:(d - 1) * b ^ (k+1)=d * b ^ (k+1) - b ^ (k+1):=by rw [Int.sub_mul,Int.one_mul]
  have ge2:2 * b ^ (k+1)<=d * b ^ (k+1):=Int.mul_le_mul_of_nonneg_right h2 (by omega)
  refine ⟨(d - 1) * b ^ (k+1)+(d - 1),by omega,by omega,dd (d - 1) (by omega) (by omega),by omega⟩
 ·have d0:d=1:=by omega
  subst d0
  have r00:r=0:=by omega
  subst r00
  rw [Int.one_mul,Int.add_zero] at hd
  refine ⟨n - 1,by omega,by omega,?_,by omega⟩
  rw [hd]
  exact (nines_mp hb (k+1)).2
theorem nd_log {b:Int} (hb:2<=b):∀(k:Nat) {n:Int},0<=n->n<2 ^ k->nd b n<=k
 | 0,n,h0,h=>by
  have:n=0:=by have e:(2:Int) ^ 0=1:=rfl;omega
  subst this
  rw [nd_zero hb];exact Nat.le_refl _
 | k+1,n,h0,h=>by
  by_cases z:n=0
  ·subst z;rw [nd_zero hb];omega
  obtain ⟨p,p1,pn,pm,ph⟩:=half_part hb (show 1<=n by omega)
  have e:(2:Int) ^ (k+1)=2 ^ k * 2:=Int.pow_succ _ _
  have ih:=nd_log hb k (n:=n - p) (by omega) (by omega)
  have:=nd_up hb p1 pm pn
  omega
abbrev pf (b n:Int):List Int:=(mto b n).reverse
theorem pf_pos {b n:Int} (n0:0<=n):∀x∈pf b n,(0:Int)<x:=fun x hx=>by have:=(mem_mto n0).mp (List.mem_reverse.mp hx);omega
theorem pf_fall (b n:Int):(pf b n).Pairwise (fun x y=>y<x):=List.pairwise_reverse.mpr (mto_sorted b n)
def sg (ps:List Int) (n:Int):Nat->Int
 | 0=>cg true ps 0 n
 | K+1=>sg ps n K+cg true ps (K+1) n
theorem sg_list (ps:List Int) (n:Int):∀K:Nat,((List.range (K+1)).map fun k=>cg true ps k n).sum=sg ps n K
 | 0=>by simp [sg]
 | K+1=>by rw [List.range_succ,List.map_append,List.sum_append,sg_list ps n K,sg];simp
theorem sg_cons {p:Int} {ps:List Int} {n:Int}:∀K:Nat,sg (p::ps) n K=sg ps n K+if 0<p/\p<=n then (if K=0 then 0 else sg (p::ps) (n - p) (K - 1)) else 0
 | 0=>by
  rw [sg,sg,cg_cons,if_neg (fun z=>by have:=z.2.2 rfl;omega)]
  split<;>simp
 | K+1=>by
  have h1:sg (p::ps) n (K+1)=sg (p::ps) n K+cg true (p::ps) (K+1) n:=rfl
  have h2:sg ps n (K+1)=sg ps n K+cg true ps (K+1) n:=rfl
  rw [h1,h2,sg_cons K,cg_cons (k:=K+1)]
  have e:(if K+1=0 then (0:Int) else sg (p::ps) (n - p) (K+1 - 1))=sg (p::ps) (n - p) K:=by rw [if_neg (by omega),Nat.add_sub_cancel]
  rw [e]
  by_cases c:0<p/\p<=n
  ·have c2:0<p/\p<=n/\(true=true->0<K+1):=⟨c.1,c.2,fun _=>by omega⟩
   simp only [if_pos c,if_pos c2,Nat.add_sub_cancel]
   cases K with
   | zero=>
    have:sg (p::ps) (n - p) 0=cg true (p::ps) 0 (n - p):=rfl
    rw [this];simp;omega
   | succ K=>
    have:sg (p::ps) (n - p) (K+1)=sg (p::ps) (n - p) K+cg true (p::ps) (K+1) (n - p):=rfl
    rw [this];simp;omega
  ·have c2:¬(0<p/\p<=n/\(true=true->0<K+1)):=fun z=>c ⟨z.1,z.2.1⟩
   simp only [if_neg c,if_neg c2];omega
theorem all_sg:∀(ps:List Int) (n:Int) (K:Nat),n<=(K:Int)->cg false ps 0 n=sg ps n K
 | [],n,K,_=>by
  have:∀K:Nat,sg [] n K=if n=0 then 1 else 0:=by
   intro K
   induction K with
   | zero=>rw [sg,cg_k0]
   | succ K ih=>
    have e:cg true [] (K+1) n=0:=by rw [cg_nil,if_neg (fun y=>by have:=y.2 rfl;omega)]
    rw [sg,ih,e,Int.add_zero]
  rw [this,cg_nil]
  by_cases z:n=0
  ·rw [if_pos z,if_pos ⟨z,fun y=>by cases y⟩]
  ·rw [if_neg z,if_neg (fun y=>z y.1)]
 | p::ps,n,K,h=>by
  have:∀(m:Nat) (n:Int) (K:Nat),n.toNat<=m->n<=(K:Int)->cg false (p::ps) 0 n=sg (p::ps) n K:=by
   intro m
   induction m with
   | zero=>
    intro n K hm h
    rw [sg_cons,cg_cons,<-all_sg ps n K h,if_neg (by omega),if_neg (by omega)]
   | succ m ih=>
    intro n K hm h
    rw [sg_cons,cg_cons,<-all_sg ps n K h]
    by_cases c:0<p/\p<=n
    ·rw [if_pos c,if_pos ⟨c.1,c.2,fun y=>by cases y⟩,if_neg (by omega),ih (n - p) (K - 1) (by omega) (by omega)]
    ·rw [if_neg c,if_neg (fun z=>c ⟨z.1,z.2.1⟩)]
  exact this n.toNat n K (Nat.le_refl _) h
theorem cg_le:∀(ps:List Int) (k:Nat) (n:Int),cg true ps k n<=((ps.length:Nat):Int) ^ k
 | [],k,n=>by
  rw [cg_nil]
  cases k with
  | zero=>split<;>simp
  | succ k=>rw [if_neg (fun z=>by have:=z.2 rfl;omega)];simp [Int.pow_succ]
 | p::ps,k,n=>by
  refine cg_ind (b:=true) (p:=p) (ps:=ps) (Q:=fun k n=>cg true (p::ps) k n<=(((p::ps).length:Nat):Int) ^ k) (fun k n ih=>?_) k n
  rw [cg_cons]
  have h1:=cg_le ps k n
  rw [List.length_cons] at ih ⊢
  have up:((ps.length:Nat):Int) ^ k<=(((ps.length+1:Nat)):Int) ^ k:=by
   have:ps.length ^ k<=(ps.length+1) ^ k:=Nat.pow_le_pow_left (by omega) k
   exact_mod_cast this
  by_cases c:0<p/\p<=n/\(true=true->0<k)
  ·rw [if_pos c]
   have h2:=ih c.1 c.2.1 c.2.2
   obtain ⟨j,rfl⟩:∃j,k=j+1:=⟨k - 1,by have:=c.2.2 rfl;omega⟩
   rw [Nat.add_sub_cancel] at h2
   have:ps.length ^ (j+1)+(ps.length+1) ^ j<=(ps.length+1) ^ (j+1):=by
    rw [Nat.pow_succ,Nat.pow_succ,Nat.mul_add,Nat.mul_one]
    have:ps.length ^ j * ps.length<=(ps.length+1) ^ j * ps.length:=Nat.mul_le_mul_right _ (Nat.pow_le_pow_left (by omega) j)
    omega
   have h3:((ps.length:Nat):Int) ^ (j+1)+(((ps.length+1:Nat)):Int) ^ j<=(((ps.length+1:Nat)):Int) ^ (j+1):=by exact_mod_cast this
   rw [Nat.add_sub_cancel]
   omega
  ·rw [if_neg c];omega
end M
set_option maxHeartbeats 4000000
local macro_rules | `(tactic| simp only [L2.QL]) => `(tactic| first | exact Or.inl rfl | exact Or.inr rfl)
def L2.qD:="~qVar ~qC ~q2 ~q20 ~q1 ~qTest ~qEq ~qIsN ~qChain ~qAnd ~qOr ~qNot ~qAndV ~qNotV ~qIf ~qFz ~nVal ~qNil ~qCons ~nLst ~qTup ~qIx ~qoNone ~qoSome ~nSl ~nRev ~nCat ~nRep ~qLen ~qI2 ~qDivmod ~qToI ~nListOf ~qIsi ~qApp ~qRevM ~qNext ~qDrop ~qRet ~qRetO ~qIfS ~qSet ~qSetN ~qAug ~qSetI ~qAsg ~gqName ~gkName ~gqNil ~gqCons ~gqTup ~iqR1 ~iqR2 ~iqL ~qYes ~nCall ~nListEn ~Sl.ev ~Sl.val ~Sl.mu ~Sl.put ~Rt.val ~Rt.sl ~lk ~fzs ~seqOf ~toI ~isN ~argOf ~argsOf ~owIx ~back ~outs ~startP ~isTy ~qEqD ~qCnt ~iqV ~qMaxL ~qInDic ~nCallX ~qRaise ~qCut ~iqRR ~nListRng2 ~qAugI ~vLift ~vNext ~vSet ~vDrop ~vCall ~qIxW ~vSetI ~vAugI ~qOfV ~nCallF ~datOf ~datsOf ~vAug ~vApp ~qGetT ~vDicT ~vPutK ~vPutT ~vIf ~vRetE ~vTwo ~vTwoO ~qReprV ~nSlW ~vRev ~qTry3 List.map_cons List.map_nil List.length_cons List.length_nil List.replicate_succ List.replicate_zero List.cons_append List.nil_append List.getElem?_cons_zero List.getElem?_cons_succ List.getElem?_nil List.set_cons_zero List.set_cons_succ List.drop_succ_cons List.drop_zero"
def L2.qL:="↓~ex_ss ↓~ex_int ↓~ex_int2 ↓~ex_bl ↓~ex_fz ↓~ex_fzl ↓~ex_some ↓~ex_lst ↓~ex_own ↓~ex_tup ↓~ex_e1 ↓~ss_and ~qVar ~qC ~q2 ~q20 ~q1 ~qTest ~qEq ~qIsN ~qChain ~qAnd ~qOr ~qNot ~qAndV ~qNotV ~qIf ~qFz ~nVal ~qNil ~qCons ~nLst ~qTup ~qIx ~qoNone ~qoSome ~nSl ~nRev ~nCat ~nRep ~qLen ~qI2 ~qDivmod ~qToI ~nListOf ~qIsi ~qApp ~qRevM ~qNext ~qDrop ~qRet ~qRetO ~qIfS ~qSet ~qSetN ~qAug ~qSetI ~qAsg ~gqName ~gkName ~gqNil ~gqCons ~gqTup ~iqR1 ~iqR2 ~iqL ~qYes ~nCall ~nListEn ~tr2 ~Sl.ev ~Sl.val ~Sl.mu ~Sl.put ~Rt.val ~Rt.sl ~lk ~fzs ~seqOf ~toI ~isN ~argOf ~argsOf ~owIx ~back ~outs ~startP ~isTy ~eqd_int ~eqd_bl ~eqd_str ~eqd_ints ~deq_int ~deq_bl ~deq_str ~deq_ints ~deq_self ~D.int.injEq ~D.bl.injEq ~D.str.injEq ~D.lst.injEq ~D.tup.injEq ~D.atom.injEq ~Ev.fz.injEq ~Ev.ow.injEq Option.some.injEq List.cons.injEq exists_eq_left exists_eq_left' exists_eq_right exists_and_left exists_const exists_eq_right' exists_false false_and and_false List.map_cons List.map_nil List.length_cons List.length_nil Nat.reduceAdd Nat.reduceSub List.replicate_succ List.replicate_zero List.cons_append List.nil_append List.append_nil List.getElem?_cons_zero List.getElem?_cons_succ List.getElem?_nil List.set_cons_zero List.set_cons_succ List.drop_succ_cons List.drop_zero Bool.not_true Bool.not_false Bool.false_eq_true if_true if_false ite_true ite_false eq_self true_and and_true decide_eq_true_eq List.nodup_nil List.nodup_cons List.not_mem_nil not_false_eq_true Option.isSome_some reduceCtorEq ~CMul ~CMod ~CPow ~CDiv ~CDivQ Int.reduceToNat Int.reducePow Int.reduceLT Int.reduceLE Int.reduceNeg Nat.reduceLeDiff Int.reduceMul Int.reduceAdd Int.reduceSub Int.reduceEq Int.zero_add Int.reduceAbs Int.reduceNe Nat.reduceLT Nat.reducePow Int.cast_ofNat_Int or_true true_or Bool.not_eq_true' decide_eq_false_iff_not Bool.true_and Bool.and_true Bool.false_and Bool.and_false decide_true decide_false ~Sl.d.injEq ~Sl.bor.injEq ~Sl.own.injEq ~Rt.rd.injEq ~Rt.ro.injEq String.reduceBEq String.reduceEq String.reduceBNe Bool.or_true Bool.or_false Bool.true_or Bool.false_or ~atl_0 ~atl_1 ~atl_2 ~atl_3 ~ixl_20 ~ixl_21 ite_not implies_true exists_eq exists_eq' ~nb_s ~nb_n ~nb_d ~nb_o ~nb_u ~mu_s ~mu_n ~mu_d ~mu_o ~mu_b ~mu_u ~pu_s ~pu_0 and_assoc ~seqL ~deq_scr0 ~eqd_scr0 ~eqd_l0 ~deq_l0 ~eqd_l1 ~deq_l1 ~nb_a ~eqd_00 ~D.scr.injEq ~eqd_l2 ~deq_l2 ~eqd_l3 ~deq_l3 ~eqd_l4 ~deq_l4 ~qEqD ~qCnt ~iqV ~qMaxL ~qInDic ~nCallX ~qRaise ~qCut ~iqRR ~nListRng2 ~qAugI ~vLift ~vNext ~vSet ~vDrop ~vCall ~qIxW ~vSetI ~vAugI ~vd_int ~vd_ref ~V.ref.injEq ~V.int.injEq ~HO.lst.injEq ~qOfV ~VEnds.of ~nCallF ~datOf ~datsOf ~Flat ~vAug ~vApp ~qGetT ~vDicT ~vPutK ~vPutT ~kOf ~ksOf ~flaV ~vIf ~vRetE ~vTwo ~vTwoO ~qReprV ~nSlW ~vRev ~qTry3 ~flaVs"
def L2.qS(s:String):List String:=(s.splitOn " ").map (·.replace "~" "_root_.L2.")
local macro_rules | `(tactic| simp only [Q, $xs,*]) => do { let ds ← (L2.qS L2.qD).toArray.mapM fun x => if x.startsWith "↓" then `(Lean.Parser.Tactic.simpLemma| ↓ $(Lean.mkIdent (x.drop 1).toName):ident) else `(Lean.Parser.Tactic.simpLemma| $(Lean.mkIdent x.toName):ident); let ys ← (L2.qS (L2.qL ++ " ~qSeq ~vSeq")).toArray.mapM fun x => if x.startsWith "↓" then `(Lean.Parser.Tactic.simpLemma| ↓ $(Lean.mkIdent (x.drop 1).toName):ident) else `(Lean.Parser.Tactic.simpLemma| $(Lean.mkIdent x.toName):ident); `(tactic| ((try dsimp only [$ds,*]); (try simp only [$xs,*, $ys,*]))) }
local macro_rules | `(tactic| simp only [Q]) => do { let ds ← (L2.qS L2.qD).toArray.mapM fun x => if x.startsWith "↓" then `(Lean.Parser.Tactic.simpLemma| ↓ $(Lean.mkIdent (x.drop 1).toName):ident) else `(Lean.Parser.Tactic.simpLemma| $(Lean.mkIdent x.toName):ident); let ys ← (L2.qS (L2.qL ++ " ~qSeq ~vSeq")).toArray.mapM fun x => if x.startsWith "↓" then `(Lean.Parser.Tactic.simpLemma| ↓ $(Lean.mkIdent (x.drop 1).toName):ident) else `(Lean.Parser.Tactic.simpLemma| $(Lean.mkIdent x.toName):ident); `(tactic| ((try dsimp only [$ds,*]); (try simp only [$ys,*]))) }
local macro_rules | `(tactic| simp only [R, $xs,*]) => do { let ds ← (L2.qS L2.qD).toArray.mapM fun x => if x.startsWith "↓" then `(Lean.Parser.Tactic.simpLemma| ↓ $(Lean.mkIdent (x.drop 1).toName):ident) else `(Lean.Parser.Tactic.simpLemma| $(Lean.mkIdent x.toName):ident); let ys ← (L2.qS (L2.qL)).toArray.mapM fun x => if x.startsWith "↓" then `(Lean.Parser.Tactic.simpLemma| ↓ $(Lean.mkIdent (x.drop 1).toName):ident) else `(Lean.Parser.Tactic.simpLemma| $(Lean.mkIdent x.toName):ident); `(tactic| ((try dsimp only [$ds,*]); (try simp only [$xs,*, $ys,*]))) }
local macro_rules | `(tactic| simp only [R]) => do { let ds ← (L2.qS L2.qD).toArray.mapM fun x => if x.startsWith "↓" then `(Lean.Parser.Tactic.simpLemma| ↓ $(Lean.mkIdent (x.drop 1).toName):ident) else `(Lean.Parser.Tactic.simpLemma| $(Lean.mkIdent x.toName):ident); let ys ← (L2.qS (L2.qL)).toArray.mapM fun x => if x.startsWith "↓" then `(Lean.Parser.Tactic.simpLemma| ↓ $(Lean.mkIdent (x.drop 1).toName):ident) else `(Lean.Parser.Tactic.simpLemma| $(Lean.mkIdent x.toName):ident); `(tactic| ((try dsimp only [$ds,*]); (try simp only [$ys,*]))) }
namespace K32
open PySem L2
def top (i:Nat):Stmt:=PySem.Challenge.pw_mirrorsums_k32_whole_again_and_shared.main.body.getD i (.Pass ⟨0,0,0,0⟩)
structure Txt (mg:Str->Option Value):Prop where
 z_isinstance:mg "isinstance"=none
 z_int:mg "int"=none
 z_bool:mg "bool"=none
 z_list:mg "list"=none
 z_len:mg "len"=none
 z_range:mg "range"=none
 z_enumerate:mg "enumerate"=none
 z_min:mg "min"=none
 z_max:mg "max"=none
 z_divmod:mg "divmod"=none
 z_reversed:mg "reversed"=none
 z_sum:mg "sum"=none
 z_repr:mg "repr"=none
 c_LEAST_BASE:∃t,mg "LEAST_BASE"=some (.int 2 t)
 c_GREATEST_BASE:∃t,mg "GREATEST_BASE"=some (.int 36 t)
structure XA where
 MirrorError:Addr
 NoBase:Addr
 NoPlace:Addr
 NoWay:Addr
structure XT (K:PySem.W.Frag) (mg:Str->Option Value) (cs:XA):Prop where
 x_MirrorError:XCl K mg "MirrorError" cs.MirrorError
 x_NoBase:XCl K mg "NoBase" cs.NoBase
 x_NoPlace:XCl K mg "NoPlace" cs.NoPlace
 x_NoWay:XCl K mg "NoWay" cs.NoWay
 f_NoBase:XF K cs.NoBase
 f_NoPlace:XF K cs.NoPlace
 f_NoWay:XF K cs.NoWay
 s_NoBase:PySem.W.subIn K (.ref cs.NoBase) (.ref cs.MirrorError)=some true
 s_NoPlace:PySem.W.subIn K (.ref cs.NoPlace) (.ref cs.MirrorError)=some true
 s_NoWay:PySem.W.subIn K (.ref cs.NoWay) (.ref cs.MirrorError)=some true
 v_NoBase:PySem.W.kitOne K (.ref cs.NoBase) (.type "ValueError")=some true
 v_NoPlace:PySem.W.kitOne K (.ref cs.NoPlace) (.type "ValueError")=some true
 v_NoWay:PySem.W.kitOne K (.ref cs.NoWay) (.type "ValueError")=some true
 v_N:PySem.W.kitOne K (.type "NoneType") (.type "ValueError")=some false
 n_NoBase:PySem.W.kitOne K (.type "NoneType") (.ref cs.NoBase)=some false
 n_NoPlace:PySem.W.kitOne K (.type "NoneType") (.ref cs.NoPlace)=some false
 n_NoWay:PySem.W.kitOne K (.type "NoneType") (.ref cs.NoWay)=some false
 k_NoBase_NoBase:PySem.W.kitOne K (.ref cs.NoBase) (.ref cs.NoBase)=some true
 k_NoBase_NoPlace:PySem.W.kitOne K (.ref cs.NoBase) (.ref cs.NoPlace)=some false
 k_NoBase_NoWay:PySem.W.kitOne K (.ref cs.NoBase) (.ref cs.NoWay)=some false
 k_NoPlace_NoBase:PySem.W.kitOne K (.ref cs.NoPlace) (.ref cs.NoBase)=some false
 k_NoPlace_NoPlace:PySem.W.kitOne K (.ref cs.NoPlace) (.ref cs.NoPlace)=some true
 k_NoPlace_NoWay:PySem.W.kitOne K (.ref cs.NoPlace) (.ref cs.NoWay)=some false
 k_NoWay_NoBase:PySem.W.kitOne K (.ref cs.NoWay) (.ref cs.NoBase)=some false
 k_NoWay_NoPlace:PySem.W.kitOne K (.ref cs.NoWay) (.ref cs.NoPlace)=some false
 k_NoWay_NoWay:PySem.W.kitOne K (.ref cs.NoWay) (.ref cs.NoWay)=some true
 u_NoBase_NoBase:PySem.W.subIn K (.ref cs.NoBase) (.ref cs.NoBase)=some true
 u_NoBase_NoPlace:PySem.W.subIn K (.ref cs.NoBase) (.ref cs.NoPlace)=some false
 u_NoBase_NoWay:PySem.W.subIn K (.ref cs.NoBase) (.ref cs.NoWay)=some false
 u_NoPlace_NoBase:PySem.W.subIn K (.ref cs.NoPlace) (.ref cs.NoBase)=some false
 u_NoPlace_NoPlace:PySem.W.subIn K (.ref cs.NoPlace) (.ref cs.NoPlace)=some true
 u_NoPlace_NoWay:PySem.W.subIn K (.ref cs.NoPlace) (.ref cs.NoWay)=some false
 u_NoWay_NoBase:PySem.W.subIn K (.ref cs.NoWay) (.ref cs.NoBase)=some false
 u_NoWay_NoPlace:PySem.W.subIn K (.ref cs.NoWay) (.ref cs.NoPlace)=some false
 u_NoWay_NoWay:PySem.W.subIn K (.ref cs.NoWay) (.ref cs.NoWay)=some true
theorem alld (ds:List D):∀(i:Nat) (s:Sl),(ds.map Sl.d)[i]? = some s->∃d,s=.d d:=fun i s h=>by
 rw [List.getElem?_map] at h
 cases e:ds[i]? with
 | none=>rw [e] at h;cases h
 | some d=>rw [e] at h;cases h;exact ⟨d,rfl⟩
abbrev s_b:Stmt:=top 8
abbrev A_b (K:PySem.W.Frag) (mg:Str->Option Value):=DefAt K mg "is_whole" s_b ["thing"]
theorem sc_b:FnScope ["thing"] ["thing"] (defScope s_b):=⟨rfl,rfl,rfl,by decide +kernel,rfl,by decide +kernel,by decide +kernel⟩
abbrev s_a:Stmt:=top 9
abbrev A_a (K:PySem.W.Frag) (mg:Str->Option Value):=DefAt K mg "check_base" s_a ["thing"]
theorem sc_a:FnScope ["thing"] ["thing"] (defScope s_a):=⟨rfl,rfl,rfl,by decide +kernel,rfl,by decide +kernel,by decide +kernel⟩
abbrev s_E:Stmt:=top 38
abbrev A_E (K:PySem.W.Frag) (mg:Str->Option Value):=DefAt K mg "_law_hand" s_E ["cell","k"]
theorem sc_E:FnScope ["cell","k","digits"] ["cell","k"] (defScope s_E):=⟨rfl,rfl,rfl,by decide +kernel,rfl,by decide +kernel,by decide +kernel⟩
abbrev s_i:Stmt:=top 39
abbrev A_i (K:PySem.W.Frag) (mg:Str->Option Value):=DefAt K mg "_law_draw" s_i ["hand","limit"]
theorem sc_i:FnScope ["hand","limit","got"] ["hand","limit"] (defScope s_i):=⟨rfl,rfl,rfl,by decide +kernel,rfl,by decide +kernel,by decide +kernel⟩
section
variable {P:Program} {w:World} {K:PySem.W.Frag} {mg:Str->Option Value} {base:Heap}
theorem seq_goK {t R:TSQ} {E:PEnds} {p:PSt} (h:∀k:PSt->Prop,(∀p',R E p'->k p')->t { E with nx:=k } p):qSeq t R E p:=h (R E) (fun _ h=>h)
def S_b:PSp:=fun as R=>∃x a b,as=[.d x]/\isTy "int" x=some a/\isTy "bool" x=some b/\R (.rd (.bl (a && !b))) as
theorem ok_b (T:Txt mg) (Df:A_b K mg):FnOk P w K mg base CX0 1 Df.f Df.fd ["thing"] (spOf K S_b):=by
 refine Df.F.okP sc_b (fun as R h=>?_) (fun cdv A outer s H E C as R hK hr h=>?_)
 ·obtain ⟨_,_,_,rfl,_⟩:=h;rfl
 have hu:=hr.units
 obtain ⟨x,a,b,rfl,h1,h2,q⟩:=h
 refine ⟨_,(s_one (s_ret (n_val (q_andV (cb_isi (T:="int") hK (by first|exact .inl rfl|exact .inr (.inl rfl)|exact .inr (.inr (.inl rfl))|exact .inr (.inr (.inr (.inl rfl)))|exact .inr (.inr (.inr (.inr rfl)))) rfl T.z_isinstance (a_cons (q_var (pv 0)) (a_cons (q_c (pe_bltn (v:=.ty "int") rfl T.z_int (by kernel_rfl) rfl) (fun _=>.atom _)) a_nil))) (q_one (q_notV (cb_isi (T:="bool") hK (by first|exact .inl rfl|exact .inr (.inl rfl)|exact .inr (.inr (.inl rfl))|exact .inr (.inr (.inr (.inl rfl)))|exact .inr (.inr (.inr (.inr rfl)))) rfl T.z_isinstance (a_cons (q_var (pv 0)) (a_cons (q_c (pe_bltn (v:=.ty "bool") rfl T.z_bool (by kernel_rfl) rfl) (fun _=>.atom _)) a_nil))))))))),?_⟩;simp only [Q,and_assoc]
 cases x<;>first|(cases h1;done)|skip
 all_goals (cases h1;cases h2;simp only [Q])
 all_goals first|exact q|exact ⟨_,rfl,q⟩
def S_a:PSp:=fun as R=>∃b:Int,as=[.d (.int b)]/\2<=b/\b<=36/\R (.rd .non) as
theorem ok_a (T:Txt mg) (Df:A_a K mg) (D_b:A_b K mg):FnOk P w K mg base CX0 2 Df.f Df.fd ["thing"] (spOf K S_a):=by
 have G_b:=ok_b (P:=P) (w:=w) (base:=base) T D_b
 obtain ⟨t_LEAST_BASE,c_LEAST_BASE⟩:=T.c_LEAST_BASE
 obtain ⟨t_GREATEST_BASE,c_GREATEST_BASE⟩:=T.c_GREATEST_BASE
 refine Df.F.okP sc_a (fun as R h=>?_) (fun cdv A outer s H E C as R hK hr h=>?_)
 ·obtain ⟨_,rfl,_⟩:=h;rfl
 have hu:=hr.units
 obtain ⟨b,rfl,b0,b1,q⟩:=h
 refine ⟨_,(s_one (s_if (PW.pt (w_or (t_not (t_val (q_fz (n_call hK D_b G_b (hr.mono (by first|decide|omega)) (a_cons (q_var (pv 0)) a_nil))))) (w_or1 (t_not (t_chain op_le op_le (q_c (pe_glob (v:=.int 2) rfl c_LEAST_BASE ⟨_,rfl⟩) (fun _=>.int _)) (q_var (pv 0)) (q_c (pe_glob (v:=.int 36) rfl c_GREATEST_BASE ⟨_,rfl⟩) (fun _=>.int _))))))) (s_one s_J) s_nil)),?_⟩;simp only [Q,and_assoc,S_b]
 rw [if_pos b0,if_pos b1]
 exact q
def notB (x:D):Prop:=∃a b,isTy "int" x=some a/\isTy "bool" x=some b/\((a && !b)=true->∃i:Int,x=.int i/\¬(2<=i/\i<=36))
def X_a (cs:XA):XSp:=fun as Cl=>∃x,as=[.d x]/\notB x/\Cl=cs.NoBase
theorem okX_a (T:Txt mg) {cs:XA} (TX:XT K mg cs) (Df:A_a K mg) (D_b:A_b K mg):FnOk P w K mg base (CXX P w) 2 Df.f Df.fd ["thing"] (spX K (X_a cs)):=by
 have G_b:=ok_b (P:=P) (w:=w) (base:=base) T D_b
 obtain ⟨t_LEAST_BASE,c_LEAST_BASE⟩:=T.c_LEAST_BASE
 obtain ⟨t_GREATEST_BASE,c_GREATEST_BASE⟩:=T.c_GREATEST_BASE
 refine Df.F.okX sc_a (fun as Cl h=>?_) (fun cdv A outer s H E C as Cl XE hK hr h hXE lk lr=>?_)
 ·obtain ⟨_,rfl,_⟩:=h;exact ⟨rfl,alld [_]⟩
 have hu:=hr.units
 obtain ⟨x,rfl,⟨a,b,h1,h2,h3⟩,rfl⟩:=h
 subst hXE
 refine ⟨_,(s_one (s_if (PW.pt (w_or (t_not (t_val (q_fz (n_call hK D_b G_b (hr.mono (by first|decide|omega)) (a_cons (q_var (pv 0)) a_nil))))) (w_or1 (t_not (t_chain op_le op_le (q_c (pe_glob (v:=.int 2) rfl c_LEAST_BASE ⟨_,rfl⟩) (fun _=>.int _)) (q_var (pv 0)) (q_c (pe_glob (v:=.int 36) rfl c_GREATEST_BASE ⟨_,rfl⟩) (fun _=>.int _))))))) (s_one (s_L TX.x_NoBase rfl lr (a_cons (q_c pe_str (fun _=>.str _)) a_nil))) s_nil)),?_⟩
 simp only [Q,S_b]
 cases x with
 | int i=>
  cases h1;cases h2
  obtain ⟨j,e,nj⟩:=h3 rfl
  cases e
  refine ⟨true,rfl,false,rfl,?_⟩
  rw [if_neg (by decide)]
  refine ⟨i,rfl,?_⟩
  split
  ·split
   ·exact nj ⟨by assumption,by assumption⟩
   ·trivial
  ·trivial
 | bl v=>exact ⟨true,rfl,true,rfl,by rw [if_pos (by decide)];trivial⟩
 | lst v=>exact ⟨false,rfl,false,rfl,by rw [if_pos (by decide)];trivial⟩
 | tup v=>exact ⟨false,rfl,false,rfl,by rw [if_pos (by decide)];trivial⟩
 | str v=>exact ⟨false,rfl,false,rfl,by rw [if_pos (by decide)];trivial⟩
 | non=>exact ⟨false,rfl,false,rfl,by rw [if_pos (by decide)];trivial⟩
 | dic v u=>exact ⟨false,rfl,false,rfl,by rw [if_pos (by decide)];trivial⟩
 | exb=>exact ⟨false,rfl,false,rfl,by rw [if_pos (by decide)];trivial⟩
 | _=>cases h1
def HandD (h:List D):Prop:=∃d r:Int,h=[.int d,.int r]/\0<=r/\r<2147483563
def S_E:PSp:=fun as R=>∃c k:Int,as=[.d (.int c),.d (.int k)]/\∀h,HandD h->R (.ro h) as
theorem ok_E (T:Txt mg) (Df:A_E K mg):FnOk P w K mg base CX0 1 Df.f Df.fd ["cell","k"] (spOf K S_E):=by
 refine Df.F.okP sc_E (fun as R h=>?_) (fun cdv A outer s H E C as R hK hr h=>?_)
 ·obtain ⟨_,_,rfl,_⟩:=h;rfl
 have hu:=hr.units
 obtain ⟨c,k,rfl,q⟩:=h
 refine ⟨_,(s_s (s_set (i:=2) sc_E.nd rfl (by simp only [L2.QL]) (q_c pe_int (fun _=>.int _)))
    (s_s (s_if (t_ge (q_var (pv 0)) (q_pow (q_c pe_int (fun _=>.int _)) (q_c pe_int (fun _=>.int _)))) (s_one (s_set (i:=2) sc_E.nd rfl (by simp only [L2.QL]) (q_var (pv 0)))) s_nil)
    (s_one (s_ret (n_lst (a_cons (q_var (pv 2)) (a_cons (q_mod (q_mul (q_add (q_add (q_mod (q_var (pv 0)) (q_c pe_int (fun _=>.int _))) (q_mul (q_c pe_int (fun _=>.int _)) (q_var (pv 1)))) (q_c pe_int (fun _=>.int _))) (q_c pe_int (fun _=>.int _))) (q_c pe_int (fun _=>.int _))) a_nil))))))),?_⟩;simp only [Q,and_assoc]
 refine ite2 (fun c=>?_) (fun c=>?_)
 all_goals exact q _ ⟨_,_,rfl,Int.emod_nonneg _ (by decide),Int.emod_lt_of_pos _ (by decide)⟩
def S_i:PSp:=fun as R=>∃(h:List D) (m:Int),as=[.bor h,.d (.int m)]/\HandD h/\0<m/\m<1073741824/\∀(g:Int) h',0<=g->g<m->HandD h'->R (.rd (.int g)) [.bor h',.d (.int m)]
theorem ok_i (T:Txt mg) (Df:A_i K mg):FnOk P w K mg base CX0 1 Df.f Df.fd ["hand","limit"] (spOf K S_i):=by
 refine Df.F.okP sc_i (fun as R h=>?_) (fun cdv A outer s H E C as R hK hr h=>?_)
 ·obtain ⟨_,_,rfl,_⟩:=h;rfl
 have hu:=hr.units
 obtain ⟨h,m,rfl,⟨d,r,rfl,r0,r1⟩,m0,m1,q⟩:=h
 refine ⟨_,(s_s (s_if (t_gt (q_ix hK (q_var (pv 0)) (q_c pe_int (fun _=>.int _)) (fun _ _=>rfl)) (q_c pe_int (fun _=>.int _))) (s_s (s_set (i:=2) sc_i.nd rfl (by simp only [L2.QL]) (q_mod (q_ix hK (q_var (pv 0)) (q_c pe_int (fun _=>.int _)) (fun _ _=>rfl)) (q_var (pv 1))))
    (s_s (s_setI (i:=0) (q_fdiv (q_ix hK (q_var (pv 0)) (q_c pe_int (fun _=>.int _)) (fun _ _=>rfl)) (q_var (pv 1))) (pv 0) (q_c pe_int (fun _=>.int _)))
    (s_one (s_ret (n_val (q_var (pv 2))))))) s_nil)
    (s_s (s_setI (i:=0) (q_mod (q_add (q_add (q_mul (q_ix hK (q_var (pv 0)) (q_c pe_int (fun _=>.int _)) (fun _ _=>rfl)) (q_ix hK (q_var (pv 0)) (q_c pe_int (fun _=>.int _)) (fun _ _=>rfl))) (q_mul (q_c pe_int (fun _=>.int _)) (q_ix hK (q_var (pv 0)) (q_c pe_int (fun _=>.int _)) (fun _ _=>rfl)))) (q_c pe_int (fun _=>.int _))) (q_c pe_int (fun _=>.int _))) (pv 0) (q_c pe_int (fun _=>.int _)))
    (s_one (s_ret (n_val (q_mod (q_fdiv (q_ix hK (q_var (pv 0)) (q_c pe_int (fun _=>.int _)) (fun _ _=>rfl)) (q_c pe_int (fun _=>.int _))) (q_var (pv 1)))))))),?_⟩;simp only [Q,and_assoc]
 refine ite2 (fun c=>?_) (fun c=>?_)
 ·exact ⟨m0,m0,.inl (by omega),q _ _ (Int.emod_nonneg _ (by omega)) (Int.emod_lt_of_pos _ m0) ⟨_,_,rfl,r0,r1⟩⟩
 ·exact ⟨by omega,m0,q _ _ (Int.emod_nonneg _ (by omega)) (Int.emod_lt_of_pos _ m0) ⟨_,_,rfl,Int.emod_nonneg _ (by decide),Int.emod_lt_of_pos _ (by decide)⟩⟩
end
abbrev s_p:Stmt:=top 13
abbrev A_p (K:PySem.W.Frag) (mg:Str->Option Value):=DefAt K mg "power" s_p ["base","many"]
theorem sc_p:FnScope ["base","many","product","step"] ["base","many"] (defScope s_p):=⟨rfl,rfl,rfl,by decide +kernel,rfl,by decide +kernel,by decide +kernel⟩
abbrev s_d:Stmt:=top 14
abbrev A_d (K:PySem.W.Frag) (mg:Str->Option Value):=DefAt K mg "least_front" s_d ["length","base"]
theorem sc_d:FnScope ["length","base"] ["length","base"] (defScope s_d):=⟨rfl,rfl,rfl,by decide +kernel,rfl,by decide +kernel,by decide +kernel⟩
abbrev s_e:Stmt:=top 15
abbrev A_e (K:PySem.W.Frag) (mg:Str->Option Value):=DefAt K mg "from_front" s_e ["front","length","base"]
theorem sc_e:FnScope ["front","length","base","mirrored","left","figure"] ["front","length","base"] (defScope s_e):=⟨rfl,rfl,rfl,by decide +kernel,rfl,by decide +kernel,by decide +kernel⟩
section
variable {P:Program} {w:World} {K:PySem.W.Frag} {mg:Str->Option Value} {base:Heap}
def S_p:PSp:=fun as R=>∃(b:Int) (m:Int),as=[.d (.int b),.d (.int m)]/\0<=b/\b<=36/\m<100000/\-100<m/\R (.rd (.int (b ^ m.toNat))) as
theorem ok_p (T:Txt mg) (Df:A_p K mg):FnOk P w K mg base CX0 1 Df.f Df.fd ["base","many"] (spOf K S_p):=by
 refine Df.F.okP sc_p (fun as R h=>?_) (fun cdv A outer s H E C as R hK hr h=>?_)
 ·obtain ⟨_,_,rfl,_⟩:=h;rfl
 have hu:=hr.units
 obtain ⟨b,m,rfl,b0,b1,m0,m1,q⟩:=h
 refine ⟨_,(s_s (s_set (i:=2) sc_p.nd rfl (by simp only [L2.QL]) (q_c pe_int (fun _=>.int _)))
    (s_s (s_for PassesOwn.never rfl (i_range1 rfl T.z_range (a_cons (q_var (pv 1)) a_nil)) (g_name (i:=3) sc_p.nd rfl (by simp only [L2.QL])) (s_one (s_N (i:=2) sc_p.nd rfl (by simp only [L2.QL]) (q_var (pv 0)))))
    (s_one (s_ret (n_val (q_var (pv 2))))))),?_⟩;simp only [Q,and_assoc]
 obtain ⟨I,hI⟩:∃I:Nat->PSt->Prop,I=(fun i p=>∃v,p=[some (.d (.int b)),some (.d (.int m)),some (.d (.int (b ^ i))),Option.map Sl.d v]):=⟨_,rfl⟩
 refine for_q (n:=m.toNat) (item:=fun i=>.int i) (p1:=_) (fun Q h=>by simp only [Q];exact ⟨by omega,by omega,h⟩) I (by rw [hI];exact ⟨none,by rw [Int.pow_zero];rfl⟩) ?_ ?_
 ·intro i p hi hp
  rw [hI] at hp
  obtain ⟨v,rfl⟩:=hp
  simp only [Q]
  refine ⟨by omega,by rw [hI];exact ⟨some (.int i),by rw [Int.pow_succ];rfl⟩⟩
 ·intro p hp
  rw [hI] at hp
  obtain ⟨v,rfl⟩:=hp
  simp only [Q]
  exact q
def S_d:PSp:=fun as R=>∃(L:Nat) (b:Int),as=[.d (.int (L:Int)),.d (.int b)]/\0<=b/\b<=36/\L<=90000/\R (.rd (.int (b ^ (M.hf L - 1)))) as
theorem ok_d (T:Txt mg) (Df:A_d K mg) (D_p:A_p K mg):FnOk P w K mg base CX0 2 Df.f Df.fd ["length","base"] (spOf K S_d):=by
 have G_p:=ok_p (P:=P) (w:=w) (base:=base) T D_p
 refine Df.F.okP sc_d (fun as R h=>?_) (fun cdv A outer s H E C as R hK hr h=>?_)
 ·obtain ⟨_,_,rfl,_⟩:=h;rfl
 have hu:=hr.units
 obtain ⟨L,b,rfl,b0,b1,l1,q⟩:=h
 refine ⟨_,(s_one (s_ret (n_call hK D_p G_p (hr.mono (by first|decide|omega)) (a_cons (q_var (pv 1)) (a_cons (q_sub (q_fdiv (q_add (q_var (pv 0)) (q_c pe_int (fun _=>.int _))) (q_c pe_int (fun _=>.int _))) (q_c pe_int (fun _=>.int _))) a_nil))))),?_⟩;simp only [Q,and_assoc,S_p]
 have e:(((L:Int)+1) / 2 - 1).toNat=M.hf L - 1:=by unfold M.hf;omega
 rw [e]
 exact ⟨b0,b1,by omega,by omega,q⟩
theorem and_one (L:Nat):Builtin.bitAnd (L:Int) 1=((L % 2:Nat):Int):=by
 rw [PyProof.Rows.bitAnd_pp (by omega) (by decide)]
 congr 1
 show (L &&& 1)=_
 exact Nat.and_one_is_mod L
def palz (b f:Int) (L:Nat):Int:=if f=0 then 0 else M.pal b f L
def S_e:PSp:=fun as R=>∃(f:Int) (L:Nat) (b:Int),as=[.d (.int f),.d (.int (L:Int)),.d (.int b)]/\2<=b/\b<=36/\L<=90000/\((f=0/\L=1)\/M.Fr b f L)/\R (.rd (.int (palz b f L))) as
theorem ok_e (T:Txt mg) (Df:A_e K mg):FnOk P w K mg base CX0 1 Df.f Df.fd ["front","length","base"] (spOf K S_e):=by
 refine Df.F.okP sc_e (fun as R h=>?_) (fun cdv A outer s H E C as R hK hr h=>?_)
 ·obtain ⟨_,_,_,rfl,_⟩:=h;rfl
 have hu:=hr.units
 obtain ⟨f,L,b,rfl,b0,b1,l1,hf,q⟩:=h
 -- the figures that come again
 obtain ⟨ts,hts,left0,hl0,hmod⟩:∃ts:List Int,((∀d∈ts,0<=d/\d<b)/\(ts=[]\/ts.head?≠some 0)/\(palz b f L=M.val b ts.reverse+f * b ^ ts.length))/\∃left0:Int,left0=M.val b ts/\(if L % 2=0 then f else f / b)=left0:=by
  rcases hf with ⟨rfl,rfl⟩|F
  ·exact ⟨[],⟨fun d hd=>absurd hd List.not_mem_nil,.inl rfl,by simp [palz,M.val]⟩,0,rfl,by simp⟩
  ·have d:=M.fg_digs b0 (show 0<=f by have:=F.pos;omega)
   have hl:=F.len
   have hd:=d.pos (by have:=F.pos;omega)
   have hL:=F.L1
   refine ⟨(M.fg b f).take (L / 2),⟨fun x hx=>d.rng x (List.mem_of_mem_take hx),?_,?_⟩,_,rfl,?_⟩
   ·match M.fg b f,L / 2,hd with
    | x::r,0,_=>exact .inl rfl
    | [],_,_=>exact .inl (by simp)
    | x::r,k+1,hd=>exact .inr (by simpa using hd)
   ·have hz:f≠0:=by have:=F.pos;omega
    unfold palz
    rw [if_neg hz]
    unfold M.pal
    rw [M.val_app,d.val,List.length_reverse]
    omega
   ·by_cases hp:L % 2=0
    ·rw [if_pos hp]
     have e:L / 2=(M.fg b f).length:=by rw [hl];unfold M.hf;omega
     rw [e,List.take_length,d.val]
    ·rw [if_neg hp]
     have e:L / 2=(M.fg b f).length - 1:=by rw [hl];unfold M.hf;omega
     have:=(M.front_val b0 d 1 (by rw [hl];unfold M.hf;omega)).1
     rw [Int.pow_succ,Int.pow_zero,Int.one_mul] at this
     rw [e];exact this
 obtain ⟨tr,th,tv⟩:=hts
 refine ⟨_,(s_s (s_set (i:=3) sc_e.nd rfl (by simp only [L2.QL]) (q_var (pv 0)))
    (s_s (s_set (i:=4) sc_e.nd rfl (by simp only [L2.QL]) (q_ifExp (t_eq hK hu (q_and (q_var (pv 1)) (q_c pe_int (fun _=>.int _))) (q_c pe_int (fun _=>.int _))) (q_var (pv 0)) (q_fdiv (q_var (pv 0)) (q_var (pv 2)))))
    (s_s (s_I PassesOwn.never (t_gt (q_var (pv 4)) (q_c pe_int (fun _=>.int _))) (s_s (s_asg (cb_divmod rfl T.z_divmod (a_cons (q_var (pv 4)) (a_cons (q_var (pv 2)) a_nil))) (g_tup (n:=2) hK rfl (gs_cons (g_name (i:=4) sc_e.nd rfl (by simp only [L2.QL])) (gs_cons (g_name (i:=5) sc_e.nd rfl (by simp only [L2.QL])) gs_nil))))
    (s_one (s_set (i:=3) sc_e.nd rfl (by simp only [L2.QL]) (q_add (q_mul (q_var (pv 3)) (q_var (pv 2))) (q_var (pv 5)))))))
    (s_one (s_ret (n_val (q_var (pv 3)))))))),?_⟩
 refine seq_goP ?_
 simp only [R]
 refine seq_cutP (fun p=>p=[some (.d (.int f)),some (.d (.int (L:Int))),some (.d (.int b)),some (.d (.int f)),some (.d (.int left0)),none]) (fun k hk=>?_) ?_
 ·simp only [Q]
  rw [and_one]
  refine ite2 (fun c=>?_) (fun c=>?_)
  ·rw [if_pos (by omega)] at hmod
   rw [<-hmod] at hk
   exact hk _ rfl
  ·rw [if_neg (by omega)] at hmod
   rw [<-hmod] at hk
   exact ⟨by omega,.inl (by omega),hk _ rfl⟩
 rintro p rfl
 refine seq_goP ?_
 obtain ⟨I,hI⟩:∃I:PSt->Prop,I=(fun p=>∃(us vs:List Int) (v:Option D),ts=us++vs/\p=[some (.d (.int f)),some (.d (.int (L:Int))),some (.d (.int b)),some (.d (.int (f * b ^ vs.length+M.val b vs.reverse))),some (.d (.int (M.val b us))),Option.map Sl.d v]):=⟨_,rfl⟩
 refine while_q I (fun p=>match p[4]? with|some (some (Sl.d (D.int r)))=>r.toNat|_=>0) (by rw [hI];exact ⟨ts,[],none,by simp,by rw [hl0];simp [M.val]⟩) ?_
 intro p hp
 rw [hI] at hp
 obtain ⟨us,vs,v,e,rfl⟩:=hp
 have ur:∀d∈us,0<=d/\d<b:=fun d hd=>tr d (by rw [e];exact List.mem_append_left _ hd)
 have u0:=M.val_nn (show 0<=b by omega) ur
 simp only [Q]
 refine ite2 (fun c=>?_) (fun c=>?_)
 ·have hne:us≠[]:=by intro z;rw [z] at c;exact absurd c (by show ¬(0:Int)<0;decide)
  obtain ⟨us',d,rfl⟩:=snoc_of us hne
  have hd:=ur d (by simp)
  obtain ⟨m1,m2⟩:=M.val_mod (xs:=us') hd
  have:=Int.ediv_lt_self_of_pos_of_ne_one c (show b≠1 by omega)
  have:=M.val_nn (show 0<=b by omega) (xs:=us') (fun x hx=>ur x (List.mem_append_left _ hx))
  refine ⟨by omega,by omega,by omega,?_,by omega⟩
  rw [hI]
  refine ⟨us',d::vs,some (.int d),by rw [e];simp,?_⟩
  rw [m1,m2,List.reverse_cons,M.val_snoc,List.length_cons,Int.pow_succ,Int.add_mul,Int.mul_assoc,<-Int.add_assoc]
  rfl
 ·have hz:us=[]:=by
   match us,e,ur,c with
   | [],_,_,_=>rfl
   | x::r,e,ur,c=>
    exfalso
    have hx:=ur x List.mem_cons_self
    have x0:x≠0:=by
     rcases th with z|z
     ·rw [e] at z;simp at z
     ·rw [e] at z;simpa using z
    rw [M.val_cons] at c
    have h1:=M.val_nn (show 0<=b by omega) (xs:=r) (fun y hy=>ur y (List.mem_cons_of_mem _ hy))
    have p:=M.pow_pos' (show 0<b by omega) r.length
    have:=Int.mul_le_mul_of_nonneg_right (show 1<=x by omega) (show 0<=b ^ r.length by omega)
    omega
  rw [hz,List.nil_append] at e
  rw [e] at tv
  have:f * b ^ vs.length+M.val b vs.reverse=palz b f L:=by rw [tv];omega
  rw [this]
  exact q
end
abbrev s_g:Stmt:=top 10
abbrev A_g (K:PySem.W.Frag) (mg:Str->Option Value):=DefAt K mg "figures" s_g ["number","base"]
theorem sc_g:FnScope ["number","base","row","left","figure"] ["number","base"] (defScope s_g):=⟨rfl,rfl,rfl,by decide +kernel,rfl,by decide +kernel,by decide +kernel⟩
abbrev s_h:Stmt:=top 11
abbrev A_h (K:PySem.W.Frag) (mg:Str->Option Value):=DefAt K mg "is_mirrored" s_h ["thing","base"]
theorem sc_h:FnScope ["thing","base","row"] ["thing","base"] (defScope s_h):=⟨rfl,rfl,rfl,by decide +kernel,rfl,by decide +kernel,by decide +kernel⟩
section
variable {P:Program} {w:World} {K:PySem.W.Frag} {mg:Str->Option Value} {base:Heap}
def S_g:PSp:=fun as R=>∃n b:Int,as=[.d (.int n),.d (.int b)]/\0<=n/\n<M.Big/\2<=b/\b<=36/\R (.ro ((M.fg b n).map D.int)) as
theorem ok_g (T:Txt mg) (Df:A_g K mg) (D_b:A_b K mg) (D_a:A_a K mg):FnOk P w K mg base CX0 3 Df.f Df.fd ["number","base"] (spOf K S_g):=by
 have G_a:=ok_a (P:=P) (w:=w) (base:=base) T D_a D_b
 refine Df.F.okP sc_g (fun as R h=>?_) (fun cdv A outer s H E C as R hK hr h=>?_)
 ·obtain ⟨_,_,rfl,_⟩:=h;rfl
 have hu:=hr.units
 obtain ⟨n,b,rfl,n0,n1,b0,b1,q⟩:=h
 refine ⟨_,(s_s (s_H (q_fz (n_call hK D_a G_a (hr.mono (by first|decide|omega)) (a_cons (q_var (pv 1)) a_nil))))
    (s_s (s_setN (i:=2) sc_g.nd rfl (by simp only [L2.QL]) (n_lst a_nil))
    (s_s (s_set (i:=3) sc_g.nd rfl (by simp only [L2.QL]) (q_var (pv 0)))
    (s_s (s_I PassesOwn.never (t_ge (q_var (pv 3)) (q_var (pv 1))) (s_s (s_asg (cb_divmod rfl T.z_divmod (a_cons (q_var (pv 3)) (a_cons (q_var (pv 1)) a_nil))) (g_tup (n:=2) hK rfl (gs_cons (g_name (i:=3) sc_g.nd rfl (by simp only [L2.QL])) (gs_cons (g_name (i:=4) sc_g.nd rfl (by simp only [L2.QL])) gs_nil))))
    (s_one (s_H (m_append hK (pv 2) (a_cons (q_var (pv 4)) a_nil))))))
    (s_s (s_H (m_append hK (pv 2) (a_cons (q_var (pv 3)) a_nil)))
    (s_s (s_H (m_reverse hK (pv 2)))
    (s_one (s_retO (i:=2) (pv 2))))))))),?_⟩;simp only [Q,and_assoc,S_a]
 refine ⟨b0,b1,?_⟩
 obtain ⟨I,hI⟩:∃I:PSt->Prop,I=(fun p=>∃(rs:List Int) (left:Int) (v:Option D),p=[some (.d (.int n)),some (.d (.int b)),some (.own (rs.map D.int)),some (.d (.int left)),Option.map Sl.d v]/\M.Go2 b n rs left):=⟨_,rfl⟩
 refine while_q I (fun p=>match p[3]? with|some (some (Sl.d (D.int r)))=>r.toNat|_=>0) (by rw [hI];exact ⟨[],n,none,rfl,M.Go2.start b0 n0⟩) ?_
 intro p hp
 rw [hI] at hp
 obtain ⟨rs,left,v,rfl,g⟩:=hp
 have len:=g.len (by rw [<-M.big_def];exact n1)
 simp only [Q]
 refine ite2 (fun c=>?_) (fun c=>?_)
 ·have:=Int.ediv_lt_self_of_pos_of_ne_one (show 0<left by omega) (show b≠1 by omega)
  refine ⟨by omega,by omega,by rw [List.length_map];omega,by rw [hI];exact ⟨rs++[left % b],left / b,some (.int (left % b)),by rw [List.map_append];rfl,g.turn c⟩,by omega⟩
 ·have e:(List.map D.int rs++[D.int left]).reverse=(M.fg b n).map D.int:=by
   rw [<-(g.done (by omega)).fg b0 n0,List.map_reverse,List.map_append];rfl
  rw [e]
  exact ⟨by rw [List.length_map];omega,q⟩
def S_h:PSp:=fun as R=>∃n b:Int,as=[.d (.int n),.d (.int b)]/\0<=n/\n<M.Big/\2<=b/\b<=36/\R (.rd (.bl (M.mir b n))) as
theorem ok_h (T:Txt mg) (Df:A_h K mg) (D_b:A_b K mg) (D_a:A_a K mg) (D_g:A_g K mg):FnOk P w K mg base CX0 4 Df.f Df.fd ["thing","base"] (spOf K S_h):=by
 have G_a:=ok_a (P:=P) (w:=w) (base:=base) T D_a D_b
 have G_g:=ok_g (P:=P) (w:=w) (base:=base) T D_g D_b D_a
 have G_b:=ok_b (P:=P) (w:=w) (base:=base) T D_b
 refine Df.F.okP sc_h (fun as R h=>?_) (fun cdv A outer s H E C as R hK hr h=>?_)
 ·obtain ⟨_,_,rfl,_⟩:=h;rfl
 have hu:=hr.units
 obtain ⟨n,b,rfl,n0,n1,b0,b1,q⟩:=h
 refine ⟨_,(s_s (s_H (q_fz (n_call hK D_a G_a (hr.mono (by first|decide|omega)) (a_cons (q_var (pv 1)) a_nil))))
    (s_s (s_if (PW.pt (w_or (t_not (t_val (q_fz (n_call hK D_b G_b (hr.mono (by first|decide|omega)) (a_cons (q_var (pv 0)) a_nil))))) (w_or1 (t_lt (q_var (pv 0)) (q_c pe_int (fun _=>.int _)))))) (s_one (s_ret (n_val (q_c pe_bl (fun _=>.bl _))))) s_nil)
    (s_s (s_set (i:=2) sc_h.nd rfl (by simp only [L2.QL]) (q_fz (n_call hK D_g G_g (hr.mono (by first|decide|omega)) (a_cons (q_var (pv 0)) (a_cons (q_var (pv 1)) a_nil)))))
    (s_one (s_ret (n_val (q_eq hK hu (q_var (pv 2)) (q_fz (n_rev hK (q_var (pv 2))))))))))),?_⟩;simp only [Q,and_assoc,S_a,S_g,S_b]
 rw [if_neg (by omega)]
 rw [<-List.map_reverse]
 simp only [Q]
 exact ⟨b0,b1,n0,n1,b0,b1,q⟩
end
abbrev s_c:Stmt:=top 16
abbrev A_c (K:PySem.W.Frag) (mg:Str->Option Value):=DefAt K mg "mirrored_to" s_c ["bound","base"]
theorem sc_c:FnScope ["bound","base","told","length","least","front","mirrored"] ["bound","base"] (defScope s_c):=⟨rfl,rfl,rfl,by decide +kernel,rfl,by decide +kernel,by decide +kernel⟩
section
variable {P:Program} {w:World} {K:PySem.W.Frag} {mg:Str->Option Value} {base:Heap}
def S_c:PSp:=fun as R=>∃n b:Int,as=[.d (.int n),.d (.int b)]/\0<=n/\n<=10 ^ 6/\2<=b/\b<=36/\R (.ro ((M.mto b n).map D.int)) as
theorem ok_c (T:Txt mg) (Df:A_c K mg) (D_p:A_p K mg) (D_d:A_d K mg) (D_e:A_e K mg) (D_b:A_b K mg) (D_a:A_a K mg) (D_g:A_g K mg):FnOk P w K mg base CX0 4 Df.f Df.fd ["bound","base"] (spOf K S_c):=by
 have G_d:=ok_d (P:=P) (w:=w) (base:=base) T D_d D_p
 have G_e:=ok_e (P:=P) (w:=w) (base:=base) T D_e
 have G_g:=ok_g (P:=P) (w:=w) (base:=base) T D_g D_b D_a
 refine Df.F.okP sc_c (fun as R h=>?_) (fun cdv A outer s H E C as R hK hr h=>?_)
 ·obtain ⟨_,_,rfl,_⟩:=h;rfl
 have hu:=hr.units
 obtain ⟨n,b,rfl,n0,n1,b0,b1,q⟩:=h
 have nB:n<M.Big:=M.big_40 (Int.le_trans n1 (by decide))
 have l0:=M.ln_pos b0 n0
 have l1:=M.ln_le b0 n0 nB
 have hl:(M.fg b n).length=M.ln b n:=rfl
 have nl:=M.ln_lt b0 n0
 have len6:∀m:Int,0<=m->m<=n->(M.mto b m).length<80000:=fun m m0 m1=>by
  have h1:=M.mto_len b m
  have h2:=M.cnt_le6 b0 b1 m0 (by omega)
  omega
 have bL:b ^ M.ln b n<=36 * 10 ^ 6+36:=by
  by_cases hz:n=0
  ·have e:M.ln b n=1:=by rw [hz];unfold M.ln;rw [M.fg_zero b0];rfl
   rw [e,M.pow1]
   omega
  ·have g:=M.ln_ge b0 (show 1<=n by omega)
   obtain ⟨j,hj⟩:∃j,M.ln b n=j+1:=⟨M.ln b n - 1,by omega⟩
   rw [hj] at g ⊢
   rw [Nat.add_sub_cancel] at g
   rw [Int.pow_succ]
   have h1:b ^ j * b<=n * b:=Int.mul_le_mul_of_nonneg_right g (by omega)
   have h2:n * b<=10 ^ 6 * 36:=Int.mul_le_mul n1 b1 (by omega) (by decide)
   omega
 refine ⟨_,(s_s (s_setN (i:=2) sc_c.nd rfl (by simp only [L2.QL]) (n_lst a_nil))
    (s_s (s_for PassesOwn.never rfl (i_range2 rfl T.z_range (a_cons (q_c pe_int (fun _=>.int _)) (a_cons (q_add (cb_len hK rfl T.z_len (a_cons (q_fz (n_call hK D_g G_g (hr.mono (by first|decide|omega)) (a_cons (q_var (pv 0)) (a_cons (q_var (pv 1)) a_nil)))) a_nil)) (q_c pe_int (fun _=>.int _))) a_nil))) (g_name (i:=3) sc_c.nd rfl (by simp only [L2.QL])) (s_s (s_set (i:=4) sc_c.nd rfl (by simp only [L2.QL]) (q_fz (n_call hK D_d G_d (hr.mono (by first|decide|omega)) (a_cons (q_var (pv 3)) (a_cons (q_var (pv 1)) a_nil)))))
    (s_one (s_for PassesOwn.never rfl (i_range2 rfl T.z_range (a_cons (q_var (pv 4)) (a_cons (q_mul (q_var (pv 4)) (q_var (pv 1))) a_nil))) (g_name (i:=5) sc_c.nd rfl (by simp only [L2.QL])) (s_s (s_set (i:=6) sc_c.nd rfl (by simp only [L2.QL]) (q_fz (n_call hK D_e G_e (hr.mono (by first|decide|omega)) (a_cons (q_var (pv 5)) (a_cons (q_var (pv 3)) (a_cons (q_var (pv 1)) a_nil))))))
    (s_s (s_if (t_gt (q_var (pv 6)) (q_var (pv 0))) (s_one (s_retO (i:=2) (pv 2))) s_nil)
    (s_one (s_H (m_append hK (pv 2) (a_cons (q_var (pv 6)) a_nil))))))))))
    (s_one (s_retO (i:=2) (pv 2))))),?_⟩
 refine seq_goP ?_
 simp only [R]
 obtain ⟨I,hI⟩:∃I:Nat->PSt->Prop,I=(fun i p=>∃w3 w4 w5 w6:Option (D ⊕ List D),b ^ i - 1<=n/\p=[some (.d (.int n)),some (.d (.int b)),some (.own ((M.mto b (b ^ i - 1)).map D.int)),Any w3,Any w4,Any w5,Any w6]):=⟨_,rfl⟩
 refine seq_goP (for_i ?_)
 simp only [R,S_g,List.length_map,hl]
 have eL:((M.ln b n:Int)+1 - 1).toNat=M.ln b n:=by omega
 rw [eL]
 refine ⟨n0,nB,b0,b1,by omega,by omega,I,by rw [hI];exact ⟨none,none,none,none,by rw [Int.pow_zero];omega,by rw [Int.pow_zero];rfl⟩,?_,?_⟩
 ·intro i p hi hp
  rw [hI] at hp
  obtain ⟨w3,w4,w5,w6,hle,rfl⟩:=hp
  have ei:(1:Int)+i=((i+1:Nat):Int):=by omega
  rw [ei]
  have i0:1<=i+1:=by omega
  have h0:=M.hf_pos i0
  have pw:=M.pow_pos' (show 0<b by omega) (M.hf (i+1) - 1)
  obtain ⟨cn,hcn⟩:∃cn:Nat,(cn:Int)=b ^ M.hf (i+1) - b ^ (M.hf (i+1) - 1):=⟨(b ^ M.hf (i+1) - b ^ (M.hf (i+1) - 1)).toNat,by
   have:=M.pow_le (b:=b) (by omega) (show M.hf (i+1) - 1<=M.hf (i+1) by omega)
   omega⟩
  have eb:b ^ (M.hf (i+1) - 1) * b=b ^ M.hf (i+1):=by rw [<-Int.pow_succ];congr 1;omega
  simp only [R]
  refine seq_goP ?_
  simp only [R,S_d]
  refine ⟨i+1,by first|rfl|trivial|omega,by omega,b1,by omega,?_⟩
  refine for_i ?_
  simp only [R,eb]
  have bg1:=M.pow_le (b:=b) (by omega) (show M.hf (i+1)<=M.ln b n by unfold M.hf;omega)
  have bg2:=M.pow_le (b:=b) (by omega) (show M.hf (i+1) - 1<=M.hf (i+1) by omega)
  have ec:(b ^ M.hf (i+1) - b ^ (M.hf (i+1) - 1)).toNat=cn:=by omega
  have c1:1<=cn:=by
   have:=Int.mul_le_mul_of_nonneg_left b0 (show 0<=b ^ (M.hf (i+1) - 1) by omega)
   omega
  rw [ec]
  obtain ⟨J,hJ⟩:∃J:Nat->PSt->Prop,J=(fun (j:Nat) p=>∃(m0:Int) (w5 w6:Option (D ⊕ List D)),(j=0->m0=b ^ i - 1)/\(1<=j->m0=M.pal b (b ^ (M.hf (i+1) - 1)+(j:Int) - 1) (i+1))/\m0<=n/\M.Mp b m0/\p=[some (.d (.int n)),some (.d (.int b)),some (.own ((M.mto b m0).map D.int)),some (.d (.int ((i+1:Nat):Int))),some (.d (.int (b ^ (M.hf (i+1) - 1)))),Any w5,Any w6]):=⟨_,rfl⟩
  refine ⟨.inr ⟨by omega,by omega⟩,by omega,by omega,by omega,by omega,J,by rw [hJ];exact ⟨b ^ i - 1,w5,w6,fun _=>rfl,fun z=>absurd z (by decide),hle,M.nines_mp b0 i,rfl⟩,?_,?_⟩
  ·intro j p hj hp
   rw [hJ] at hp
   obtain ⟨m0,w5,w6,e1,e2,hm,mp,rfl⟩:=hp
   have F:M.Fr b (b ^ (M.hf (i+1) - 1)+(j:Int)) (i+1):=⟨b0,i0,by omega,by omega⟩
   have e3:palz b (b ^ (M.hf (i+1) - 1)+(j:Int)) (i+1)=M.pal b (b ^ (M.hf (i+1) - 1)+(j:Int)) (i+1):=by
    unfold palz;rw [if_neg (by have:=F.pos;omega)]
   have nx:M.Nx b m0 (M.pal b (b ^ (M.hf (i+1) - 1)+(j:Int)) (i+1)):=by
    by_cases z:j=0
    ·rw [e1 z,z]
     have:=M.nx_least b0 i0
     rw [Nat.add_sub_cancel] at this
     rw [show b ^ (M.hf (i+1) - 1)+((0:Nat):Int)=b ^ (M.hf (i+1) - 1) by omega]
     exact this
    ·rw [e2 (by omega)]
     have F0:M.Fr b (b ^ (M.hf (i+1) - 1)+(j:Int) - 1) (i+1):=⟨b0,i0,by omega,by omega⟩
     have F1:M.Fr b (b ^ (M.hf (i+1) - 1)+(j:Int) - 1+1) (i+1):=by rw [Int.sub_add_cancel];exact F
     have:=M.nx_in F0 F1
     rw [Int.sub_add_cancel] at this
     exact this
   have st:=M.mto_step mp nx
   have mp2:=F.mp
   have ln6:=len6 m0 mp.1 hm
   generalize hG:M.pal b (b ^ (M.hf (i+1) - 1)+(j:Int)) (i+1)=m at *
   simp only [Q,S_e]
   refine ⟨i+1,by first|rfl|trivial|omega,b0,b1,by omega,.inr F,?_⟩
   rw [e3]
   refine ite2 (fun c=>?_) (fun c=>?_)
   ·rw [<-M.mto_gap mp nx hm c]
    exact q
   ·refine ⟨by rw [List.length_map];omega,?_⟩
    rw [hJ]
    refine ⟨m,some (.inl (.int (b ^ (M.hf (i+1) - 1)+(j:Int)))),some (.inl (.int m)),fun z=>absurd z (by omega),fun _=>?_,by omega,mp2,?_⟩
    ·rw [<-hG];congr 1;push_cast;omega
    ·rw [st,List.map_append];rfl
  ·intro p hp
   rw [hJ] at hp
   obtain ⟨m0,w5,w6,e1,e2,hm,mp,rfl⟩:=hp
   have e3:m0=b ^ (i+1) - 1:=by
    rw [e2 c1,show b ^ (M.hf (i+1) - 1)+(cn:Int) - 1=b ^ M.hf (i+1) - 1 by omega]
    exact (M.nines b0 i0).2
   rw [hI]
   subst e3
   exact ⟨some (.inl (.int ((i+1:Nat):Int))),some (.inl (.int (b ^ (M.hf (i+1) - 1)))),w5,w6,hm,rfl⟩
 ·intro p hp
  rw [hI] at hp
  obtain ⟨w3,w4,w5,w6,hle,rfl⟩:=hp
  have e:b ^ M.ln b n - 1=n:=by omega
  rw [e]
  simp only [Q]
  exact q
end
abbrev s_q:Stmt:=top 18
abbrev A_q (K:PySem.W.Frag) (mg:Str->Option Value):=DefAt K mg "totals" s_q ["part","size","number","many"]
theorem sc_q:FnScope ["part","size","number","many"] ["part","size","number","many"] (defScope s_q):=⟨rfl,rfl,rfl,by decide +kernel,rfl,by decide +kernel,by decide +kernel⟩
abbrev s_v:Stmt:=top 19
abbrev A_v (K:PySem.W.Frag) (mg:Str->Option Value):=DefAt K mg "put_in" s_v ["part","rows","number","many"]
theorem sc_v:FnScope ["part","rows","number","many","size","row","shorter","total"] ["part","rows","number","many"] (defScope s_v):=⟨rfl,rfl,rfl,by decide +kernel,rfl,by decide +kernel,by decide +kernel⟩
abbrev s_m:Stmt:=top 21
abbrev A_m (K:PySem.W.Frag) (mg:Str->Option Value):=DefAt K mg "rows_of" s_m ["parts","number","many"]
theorem sc_m:FnScope ["parts","number","many","rows","part"] ["parts","number","many"] (defScope s_m):=⟨rfl,rfl,rfl,by decide +kernel,rfl,by decide +kernel,by decide +kernel⟩
abbrev s_y:Stmt:=top 23
abbrev A_y (K:PySem.W.Frag) (mg:Str->Option Value):=DefAt K mg "many_ways" s_y ["number","base","many"]
theorem sc_y:FnScope ["number","base","many","rows"] ["number","base","many"] (defScope s_y):=⟨rfl,rfl,rfl,by decide +kernel,rfl,by decide +kernel,by decide +kernel⟩
section
variable {P:Program} {w:World} {K:PySem.W.Frag} {mg:Str->Option Value} {base:Heap}
def S_q:PSp:=fun as R=>∃part size n k:Int,as=[.d (.int part),.d (.int size),.d (.int n),.d (.int k)]/\0<=part/\part<=2000/\0<=size/\size<=2000/\0<=n/\n<=2000/\0<=k/\k<=2000 /\
 R (.ro ((rngL (part+size - 1) ((if n - k+size<part * size then n - k+size else part * size)+1 - (part+size - 1)).toNat).map D.int)) as
theorem ok_q (T:Txt mg) (Df:A_q K mg):FnOk P w K mg base CX0 1 Df.f Df.fd ["part","size","number","many"] (spOf K S_q):=by
 refine Df.F.okP sc_q (fun as R h=>?_) (fun cdv A outer s H E C as R hK hr h=>?_)
 ·obtain ⟨_,_,_,_,rfl,_⟩:=h;rfl
 have hu:=hr.units
 obtain ⟨part,size,n,k,rfl,p0,p1,s0,s1,n0,n1,k0,k1,q⟩:=h
 have m0:0<=part * size:=Int.mul_nonneg p0 s0
 have m1:part * size<=2000 * 2000:=Int.mul_le_mul p1 s1 s0 (by decide)
 refine ⟨_,(s_one (s_ret (n_listRng2 rfl rfl T.z_list rfl T.z_range (a_cons (q_sub (q_add (q_var (pv 0)) (q_var (pv 1))) (q_c pe_int (fun _=>.int _))) (a_cons (q_add (cb_min rfl rfl T.z_min (a_cons (q_mul (q_var (pv 0)) (q_var (pv 1))) (a_cons (q_add (q_sub (q_var (pv 2)) (q_var (pv 3))) (q_var (pv 1))) a_nil))) (q_c pe_int (fun _=>.int _))) a_nil))))),?_⟩
 simp only [R]
 obtain ⟨z,hz⟩:∃z,z=(if n - k+size<part * size then n - k+size else part * size):=⟨_,rfl⟩
 have z1:z<=4000:=by rw [hz];split<;>omega
 have z2:-2000<=z:=by rw [hz];split<;>omega
 rw [<-hz] at q ⊢
 refine ⟨.inl ⟨by omega,by omega⟩,by omega,by omega,by omega,by omega,by omega,q⟩
def S_v:VSp:=fun W ds R=>∃(part:Int) (x:Addr) (N Kk:Nat) (ps:List Int) (ms:List (List Int)),ds=[.int part,.atom (.ref x),.int N,.int Kk]/\Mat W x ms/\M.Tab ps N Kk ms/\0<part/\part<=2000/\N<=2000/\Kk<=2000/\(∀y∈ps,y<=part) /\
 ∀W' ms',Mat W' x ms'->M.Tab (part::ps) N Kk ms'->R .non W'
theorem getD_rng {i:Int} {n k:Nat} (h:k<n):((rngL i n).map D.int).getD k .non=.int (i+(k:Int)):=by
 rw [List.getD_eq_getElem?_getD,List.getElem?_map,rngL_get i n k h];rfl
theorem set_ints (r:List Int) (t:Nat) (v:Int):(r.map V.int).set t (.int v)=(r.set t v).map V.int:=by rw [List.map_set]
theorem ok_v (T:Txt mg) (Df:A_v K mg) (D_q:A_q K mg):FnOk P w K mg base CX0 2 Df.f Df.fd ["part","rows","number","many"] (spV K S_v):=by
 have G_q:=ok_q (P:=P) (w:=w) (base:=base) T D_q
 refine Df.F.okV sc_v (fun W ds R h=>?_) (fun cdv A outer s H E C W ds R hK hr h=>?_)
 ·obtain ⟨_,_,_,_,_,_,rfl,_⟩:=h;rfl
 have hu:=hr.units
 obtain ⟨part,x,N,Kk,ps,ms,rfl,⟨bs,hx,nx,rw0⟩,hT,p0,p1,n1,k1,hps,q⟩:=h
 refine ⟨_,(v_one (v_for PassesOwn.never rfl (fun W ok=>(i_range2 rfl T.z_range (a_cons (q_c pe_int (fun _=>.int _)) (a_cons (q_add (q_var (pv 3)) (q_c pe_int (fun _=>.int _))) a_nil)))) (fun W ok=>(g_name (i:=4) sc_v.nd rfl (by simp only [L2.QL]))) (v_cons (v_lift (fun W ok=>(s_set (i:=5) sc_v.nd rfl (by simp only [L2.QL]) (q_ixW ok hK (q_var (pv 1)) (q_var (pv 4)) (fun _ _=>rfl)))))
    (v_cons (v_lift (fun W ok=>(s_set (i:=6) sc_v.nd rfl (by simp only [L2.QL]) (q_ixW ok hK (q_var (pv 1)) (q_sub (q_var (pv 4)) (q_c pe_int (fun _=>.int _))) (fun _ _=>rfl)))))
    (v_one (v_for PassesOwn.never rfl (fun W ok=>(i_list hK (q_fz (n_call hK D_q G_q (hr.mono (by first|decide|omega)) (a_cons (q_var (pv 0)) (a_cons (q_var (pv 4)) (a_cons (q_var (pv 2)) (a_cons (q_var (pv 3)) a_nil)))))))) (fun W ok=>(g_name (i:=7) sc_v.nd rfl (by simp only [L2.QL]))) (v_one (v_augI ip_add (fun W ok=>(q_var (pv 5))) (fun W ok=>(q_var (pv 7))) (fun W ok=>(q_ixW ok hK (q_var (pv 6)) (q_sub (q_var (pv 7)) (q_var (pv 0))) (fun _ _=>rfl))))))))))),?_⟩
 obtain ⟨I,hI⟩:∃I:Nat->Hp->PSt->Prop,I=(fun (i:Nat) W p=>∃(ms:List (List Int)) (w4 w5 w6 w7:Option D),W x=some (.lst (bs.map V.ref))/\Rws W bs ms/\M.TabI part ps N Kk i ms/\p=[some (.d (.int part)),some (.d (.atom (.ref x))),some (.d (.int N)),some (.d (.int Kk)),Option.map Sl.d w4,Option.map Sl.d w5,Option.map Sl.d w6,Option.map Sl.d w7]):=⟨_,rfl⟩
 refine vfor_q (n:=Kk) (item:=fun i=>.int (1+(i:Int))) (p1:=_) (fun Q h=>by
  simp only [Q]
  have e:((Kk:Int)+1 - 1).toNat=Kk:=by omega
  rw [e]
  exact ⟨by omega,by omega,h⟩) I (by rw [hI];exact ⟨ms,none,none,none,none,hx,rw0,hT.start,rfl⟩) ?_ ?_
 ·intro i W p hi hp
  rw [hI] at hp
  obtain ⟨ms,w4,w5,w6,w7,hx,rw1,hT,rfl⟩:=hp
  have hb:bs.length=ms.length:=rw1.len
  have hl:=hT.shp.len
  obtain ⟨b1,e1⟩:∃b,bs[i+1]? = some b:=⟨_,List.getElem?_eq_getElem (by omega)⟩
  obtain ⟨b0,e0⟩:∃b,bs[i]? = some b:=⟨_,List.getElem?_eq_getElem (by omega)⟩
  have f1:atI (bs.map V.ref) (1+(i:Int))=some (.ref b1):=atI_refs (by omega) (by rw [show (1+(i:Int)).toNat=i+1 by omega];exact e1)
  have f0:atI (bs.map V.ref) (1+(i:Int) - 1)=some (.ref b0):=atI_refs (by omega) (by rw [show (1+(i:Int) - 1).toNat=i by omega];exact e0)
  simp only [R]
  refine vseq_goK fun kk hkk=>?_
  simp only [R,hx,f1]
  refine hkk _ _ ?_
  refine vseq_goK fun kk hkk=>?_
  simp only [R,hx,f0]
  refine hkk _ _ ?_
  refine vfor_c ?_
  simp only [R,S_q]
  refine ⟨by omega,by omega,by omega,by omega,by omega,by omega,by omega,by omega,?_⟩
  obtain ⟨z,hz⟩:∃z:Int,z=(if (N:Int) - (Kk:Int)+(1+(i:Int))<part * (1+(i:Int)) then (N:Int) - (Kk:Int)+(1+(i:Int)) else part * (1+(i:Int))):=⟨_,rfl⟩
  rw [<-hz]
  have z1:z<=(N:Int) - (Kk:Int)+(1+(i:Int)):=by rw [hz];split<;>omega
  have z2:∀t:Int,t<=(N:Int) - (Kk:Int)+(1+(i:Int))->z<t->part * ((i:Int)+1)<t:=fun t h1 h2=>by
   rw [Int.add_comm (i:Int) 1]
   rw [hz] at h2
   split at h2<;>omega
  obtain ⟨n,hn⟩:∃n,n=(z+1 - (part+(1+(i:Int)) - 1)).toNat:=⟨_,rfl⟩
  rw [<-hn]
  obtain ⟨J,hJ⟩:∃J:Nat->Hp->PSt->Prop,J=(fun (k:Nat) W p=>∃(ms:List (List Int)) (w7:Option D),W x=some (.lst (bs.map V.ref))/\Rws W bs ms/\M.TabJ part ps N Kk i (part+(i:Int)+(k:Int)) ms/\p=[some (.d (.int part)),some (.d (.atom (.ref x))),some (.d (.int N)),some (.d (.int Kk)),some (.d (.int (1+(i:Int)))),some (.d (.atom (.ref b1))),some (.d (.atom (.ref b0))),Option.map Sl.d w7]):=⟨_,rfl⟩
  refine vfor_q (n:=((rngL (part+(1+(i:Int)) - 1) n).map D.int).length) (item:=fun k=>((rngL (part+(1+(i:Int)) - 1) n).map D.int).getD k .non) (p1:=_) (fun Q h=>h) J (by rw [hJ];exact ⟨ms,w7,hx,rw1,by have:=hT.go p0;simpa using this,rfl⟩) ?_ ?_
  ·intro k W p hk hp
   rw [hJ] at hp
   obtain ⟨ms,w7,hx,rw2,hT,rfl⟩:=hp
   rw [List.length_map,rngL_len] at hk
   rw [getD_rng hk]
   have ec:part+(1+(i:Int)) - 1+(k:Int)=part+(i:Int)+(k:Int):=by omega
   rw [ec]
   obtain ⟨c,hc⟩:∃c,c=part+(i:Int)+(k:Int):=⟨_,rfl⟩
   rw [<-hc] at hT ⊢
   obtain ⟨g1,g0⟩:=hT.read p0 (by omega) (t0:=c.toNat) (by omega) (by omega) (by omega)
   obtain ⟨r1,s1,y1⟩:=M.at2_some g1
   obtain ⟨r0,s0,y0⟩:=M.at2_some g0
   have h1:=rw2.at_ _ _ _ e1 s1
   have h0:=rw2.at_ _ _ _ e0 s0
   have x1:(r1.map V.int)[c.toNat]? = some (.int (M.cg true ps (i+1) c)):=by rw [List.getElem?_map,y1];rfl
   have x0:atI (r0.map V.int) (c - part)=some (.int (M.cg true (part::ps) i (c - part))):=atI_ints (by omega) y0
   simp only [R,h1,h0,x1,x0]
   refine ⟨by omega,?_⟩
   rw [hJ,set_ints]
   have nb:x≠b1:=fun e=>nx (by rw [e];exact List.mem_of_getElem? e1)
   refine ⟨_,some (.int c),by rw [upd_ne nb];exact hx,rw2.wr e1,?_,rfl⟩
   have:=hT.step p0 (by omega) (t0:=c.toNat) (by omega) (by omega) (by omega) s1 rfl
   have e2:part+(i:Int)+((k+1:Nat):Int)=c+1:=by rw [hc];push_cast;omega
   rw [e2]
   exact this
  ·intro W p hp
   rw [hJ] at hp
   obtain ⟨ms,w7,hx,rw2,hT,rfl⟩:=hp
   rw [List.length_map,rngL_len] at hT
   show I (i+1) _ _
   rw [hI]
   refine ⟨ms,some (.int (1+(i:Int))),some _,some _,w7,hx,rw2,hT.fin p0 hps fun t h1 h2=>z2 t (by omega) (by omega),rfl⟩
 ·intro W p hp
  rw [hI] at hp
  obtain ⟨ms,w4,w5,w6,w7,hx,rw1,hT,rfl⟩:=hp
  exact q W ms ⟨bs,hx,nx,rw1⟩ hT.fin
def S_m:VSp:=fun W ds R=>∃(ps:List Int) (N Kk:Nat),ds=[.lst (ps.map D.int),.int N,.int Kk]/\N<=2000/\Kk<=2000/\(∀y∈ps,(0:Int)<y/\y<=2000)/\ps.Pairwise (·<·) /\
 ∀W' x ms,Mat W' x ms->M.Tab ps.reverse N Kk ms->R (.atom (.ref x)) W'
theorem take_rev {ps:List Int} {i:Nat} (h:i<ps.length):(ps.take (i+1)).reverse=ps.getD i 0::(ps.take i).reverse:=by
 rw [List.take_succ,List.getElem?_eq_getElem h,List.reverse_append,List.getD_eq_getElem?_getD,List.getElem?_eq_getElem h];rfl
theorem take_le {ps:List Int} (hp:ps.Pairwise (·<·)) {i:Nat} (h:i<ps.length):∀y∈(ps.take i).reverse,y<=ps.getD i 0:=fun y hy=>by
 rw [List.mem_reverse] at hy
 obtain ⟨j,hj,e⟩:=List.getElem_of_mem hy
 rw [List.length_take] at hj
 rw [List.getElem_take] at e
 have:=List.pairwise_iff_getElem.mp hp j i (by omega) h (by omega)
 rw [List.getD_eq_getElem?_getD,List.getElem?_eq_getElem h]
 show y<=ps[i]
 omega
theorem set_first (N Kk:Nat):(List.replicate (Kk+1) (List.replicate (N+1) (0:Int))).set 0 ((List.replicate (N+1) (0:Int)).set 0 1)=([1]++List.replicate N 0)::List.replicate Kk (List.replicate (N+1) 0):=by
 rw [List.replicate_succ,List.set_cons_zero,List.replicate_succ,List.set_cons_zero];rfl
theorem ok_m (T:Txt mg) (Df:A_m K mg) (D_q:A_q K mg) (D_v:A_v K mg):FnOk P w K mg base CX0 3 Df.f Df.fd ["parts","number","many"] (spV K S_m):=by
 have G_v:=ok_v (P:=P) (w:=w) (base:=base) T D_v D_q
 refine Df.F.okV sc_m (fun W ds R h=>?_) (fun cdv A outer s H E C W ds R hK hr h=>?_)
 ·obtain ⟨_,_,_,rfl,_⟩:=h;rfl
 have hu:=hr.units
 obtain ⟨ps,N,Kk,rfl,n1,k1,hp,hs,q⟩:=h
 refine ⟨_,(v_cons (v_setMat (i:=3) sc_m.nd rfl (by simp only [L2.QL]) (N:=["size","parts","number","many","rows","part"]) (k:=1) (CompScope.of (show CompSc (defScope s_m) ["parts","number","many","rows","part"] _ ["size","parts","number","many","rows","part"] 1 from ⟨by rfl,by decide +kernel,by decide +kernel,by rfl,by decide +kernel,by decide +kernel,by decide +kernel,by decide +kernel⟩)) rfl (fun W ok=>(i_range1 rfl T.z_range (a_cons (q_add (q_var (pv 2)) (q_c pe_int (fun _=>.int _))) a_nil))) (fun W ok Z s H fp=>(gk_name (i:=0) (by decide) (show List.Nodup (["size","parts","number","many","rows","part"]:List Str) by decide +kernel) rfl (Or.inl rfl) (Or.inr rfl))) (fun W ok Z s H fp=>ts_nil) (fun W ok Z s H fp=>(n_rep (q_fz (n_lst (a_cons (q_c pe_int (fun _=>.int _)) a_nil))) (q_add (q_var (pv 2)) (q_c pe_int (fun _=>.int _))))))
    (v_cons (v_setI (fun W ok=>(q_c pe_int (fun _=>.int _))) (fun W ok=>(q_ixW ok hK (q_var (pv 3)) (q_c pe_int (fun _=>.int _)) (fun _ _=>rfl))) (fun W ok=>(q_c pe_int (fun _=>.int _))))
    (v_cons (v_for PassesOwn.never rfl (fun W ok=>(i_list hK (q_var (pv 0)))) (fun W ok=>(g_name (i:=4) sc_m.nd rfl (by simp only [L2.QL]))) (v_one (v_expr (v_call hK D_v G_v (hr.mono (by first|decide|omega)) (fun W ok=>(a_cons (q_var (pv 4)) (a_cons (q_var (pv 3)) (a_cons (q_var (pv 1)) (a_cons (q_var (pv 2)) a_nil)))))))))
    (v_one (v_lift (fun W ok=>(s_ret (n_val (q_var (pv 3)))))))))),?_⟩
 refine vseq_goK fun kk hkk=>?_
 have ez:∀m:Nat,(List.replicate m [D.int 0]).flatten=(List.replicate m (0:Int)).map D.int:=fun m=>rep_ints m 0
 obtain ⟨I,hI⟩:∃I:Nat->List (List Int)->PSt->Prop,I=(fun (i:Nat) ys p=>ys=List.replicate i (List.replicate (N+1) 0)/\∃w:Option D,p=[Option.map Sl.d w,some (.d (.lst (ps.map D.int))),some (.d (.int N)),some (.d (.int Kk)),none,none]):=⟨_,rfl⟩
 refine vcomp_q (n:=Kk+1) (item:=fun i=>.int (i:Int)) (p1:=_) (fun Q h=>by
  simp only [Q]
  have e:((Kk:Int)+1).toNat=Kk+1:=by omega
  rw [e]
  exact ⟨by omega,by omega,h⟩) (by omega) I (by rw [hI];exact ⟨rfl,none,rfl⟩) (fun i ys p h=>by rw [hI] at h;rw [h.1,List.length_replicate];exact Nat.le_refl _) ?_ ?_
 ·intro i ys p hi hp
  rw [hI] at hp
  obtain ⟨rfl,w,rfl⟩:=hp
  have go:∀p',p'=[some (Sl.d (D.int (i:Int))),some (.d (.lst (ps.map D.int))),some (.d (.int N)),some (.d (.int Kk)),none,none]->∃ns,(List.replicate ((N:Int)+1).toNat [D.int 0]).flatten=List.map D.int ns/\I (i+1) (List.replicate i (List.replicate (N+1) 0)++[ns]) p':=fun p' e=>by
   refine ⟨_,ez _,?_⟩
   rw [hI,show ((N:Int)+1).toNat=N+1 by omega]
   exact ⟨by rw [List.replicate_succ' (n:=i)],some (.int i),e⟩
  cases w<;>(simp only [Q];exact ⟨by omega,by omega,by omega,go _ rfl⟩)
 intro ys p hp x W1 hM _
 rw [hI] at hp
 obtain ⟨rfl,w,rfl⟩:=hp
 refine ⟨rfl,hkk _ _ ?_⟩
 obtain ⟨bs,hx,nx,rw0⟩:=hM
 have hb:=rw0.len
 rw [List.length_replicate] at hb
 obtain ⟨b0,e0⟩:∃b,bs[0]? = some b:=⟨_,List.getElem?_eq_getElem (by omega)⟩
 have h0:=rw0.at_ 0 b0 (List.replicate (N+1) 0) e0 (by rw [List.getElem?_replicate,if_pos (by omega)])
 have f0:atI (bs.map V.ref) 0=some (.ref b0):=atI_refs (by decide) e0
 have i0:ixN ((List.replicate (N+1) (0:Int)).map V.int).length 0=some 0:=by exact ixN_nat (by decide) (by rw [List.length_map,List.length_replicate];exact Nat.succ_pos _)
 obtain ⟨z0,hz0⟩:∃z,z=List.replicate (N+1) (0:Int):=⟨_,rfl⟩
 rw [<-hz0] at h0 i0
 refine vseq_goK fun kk hkk=>?_
 simp only [R,hx,f0,h0,i0]
 refine hkk _ _ ?_
 have nb:x≠b0:=fun e=>nx (by rw [e];exact List.mem_of_getElem? e0)
 have rw1:=rw0.wr (ns:=z0.set 0 1) e0
 rw [hz0,set_first] at rw1
 have hM:Mat (upd W1 b0 (.lst ((z0.map V.int).set 0 (.int 1)))) x (([1]++List.replicate N 0)::List.replicate Kk (List.replicate (N+1) 0)):=⟨bs,by rw [upd_ne nb];exact hx,nx,by rw [set_ints,hz0];exact rw1⟩
 generalize upd W1 b0 (.lst ((z0.map V.int).set 0 (.int 1)))=W2 at hM
 obtain ⟨J,hJ⟩:∃J:Nat->Hp->PSt->Prop,J=(fun (i:Nat) W p=>∃(ms:List (List Int)) (w4:Option D),Mat W x ms/\M.Tab (ps.take i).reverse N Kk ms/\p=[some (.d (.lst (ps.map D.int))),some (.d (.int N)),some (.d (.int Kk)),some (.d (.atom (.ref x))),Option.map Sl.d w4]):=⟨_,rfl⟩
 refine vseq_goP (vfor_q (n:=(ps.map D.int).length) (item:=fun i=>(ps.map D.int).getD i .non) (p1:=_) (fun Q h=>by simp only [Q];exact h) J (by rw [hJ];exact ⟨_,none,hM,M.Tab.nil,rfl⟩) ?_ ?_)
 ·intro i W p hi hp
  rw [hJ] at hp
  obtain ⟨ms,w4,hM,hT,rfl⟩:=hp
  rw [List.length_map] at hi
  rw [getD_ints hi]
  have hm:ps.getD i 0∈ps:=by rw [List.getD_eq_getElem?_getD,List.getElem?_eq_getElem hi];exact List.getElem_mem hi
  have g:=hp _ hm
  simp only [R,S_v]
  refine ⟨N,rfl,Kk,rfl,_,ms,hM,hT,g.1,g.2,n1,k1,take_le hs hi,fun W' ms' hM' hT'=>?_⟩
  rw [hJ]
  exact ⟨ms',some _,hM',by rw [take_rev hi];exact hT',rfl⟩
 ·intro W p hp
  rw [hJ] at hp
  obtain ⟨ms,w4,hM,hT,rfl⟩:=hp
  rw [List.length_map,List.take_length] at hT
  simp only [Q]
  exact q _ _ _ hM hT
theorem mto_bd {b n:Int} (n0:0<=n):∀y∈M.mto b n,(0:Int)<y/\y<=n:=fun y hy=>by
 have:=(M.mem_mto n0).mp hy
 omega
def S_y:PSp:=fun as R=>∃(n b:Int) (k:Nat),as=[.d (.int n),.d (.int b),.d (.int k)]/\0<=n/\n<=2000/\2<=b/\b<=36/\k<=2000/\R (.rd (.int (M.cg true (M.mto b n).reverse k n))) as
theorem ok_y (T:Txt mg) (Df:A_y K mg) (D_b:A_b K mg) (D_a:A_a K mg) (D_q:A_q K mg) (D_v:A_v K mg) (D_m:A_m K mg) (D_p:A_p K mg) (D_d:A_d K mg) (D_e:A_e K mg) (D_g:A_g K mg) (D_c:A_c K mg):FnOk P w K mg base CX0 5 Df.f Df.fd ["number","base","many"] (spOf K S_y):=by
 have G_a:=ok_a (P:=P) (w:=w) (base:=base) T D_a D_b
 have G_m:=ok_m (P:=P) (w:=w) (base:=base) T D_m D_q D_v
 have G_c:=ok_c (P:=P) (w:=w) (base:=base) T D_c D_p D_d D_e D_b D_a D_g
 refine Df.F.okP sc_y (fun as R h=>?_) (fun cdv A outer s H E C as R hK hr h=>?_)
 ·obtain ⟨_,_,_,rfl,_⟩:=h;rfl
 have hu:=hr.units
 obtain ⟨n,b,k,rfl,n0,n1,b0,b1,k1,q⟩:=h
 refine ⟨_,(ss_ofV (v_cons (v_lift (fun W ok=>(s_H (q_fz (n_call hK D_a G_a (hr.mono (by first|decide|omega)) (a_cons (q_var (pv 1)) a_nil))))))
    (v_cons (v_set (i:=3) sc_y.nd rfl (by simp only [L2.QL]) (v_call hK D_m G_m (hr.mono (by first|decide|omega)) (fun W ok=>(a_cons (q_fz (n_call hK D_c G_c (hr.mono (by first|decide|omega)) (a_cons (q_var (pv 0)) (a_cons (q_var (pv 1)) a_nil)))) (a_cons (q_var (pv 0)) (a_cons (q_var (pv 2)) a_nil))))))
    (v_one (v_lift (fun W ok=>(s_ret (n_val (q_ixW ok hK (q_ixW ok hK (q_var (pv 3)) (q_var (pv 2)) (fun _ _=>rfl)) (q_var (pv 0)) (fun _ _=>rfl)))))))))),?_⟩
 show vSeq _ _ _ _ _
 refine vseq_goK fun kk hkk=>?_
 simp only [R,S_a]
 refine ⟨b0,b1,hkk _ _ ?_⟩
 refine vseq_goK fun kk hkk=>?_
 simp only [R,S_c,S_m]
 refine ⟨n0,by omega,b0,b1,_,rfl,n.toNat,by omega,k,rfl,by omega,k1,fun y hy=>?_,M.mto_sorted b n,fun W' x ms hM hT=>hkk _ _ ?_⟩
 ·have:=mto_bd n0 y hy
  omega
 obtain ⟨bs,hx,nx,rw0⟩:=hM
 have hb:=rw0.len
 have hl:=hT.shp.len
 have g:=hT.val k n.toNat (Nat.le_refl _) (Nat.le_refl _)
 rw [show ((n.toNat:Nat):Int)=n by omega] at g
 obtain ⟨r,s1,y1⟩:=M.at2_some g
 obtain ⟨b',e1⟩:∃b',bs[k]? = some b':=⟨_,List.getElem?_eq_getElem (by omega)⟩
 have f1:atI (bs.map V.ref) (k:Int)=some (.ref b'):=atI_refs (by omega) (by rw [Int.toNat_natCast];exact e1)
 have h1:=rw0.at_ _ _ _ e1 s1
 have x1:atI (r.map V.int) n=some (.int (M.cg true (M.mto b n).reverse k n)):=atI_ints n0 y1
 simp only [R,hx,f1,h1,x1]
 exact q
end
abbrev s_n:Stmt:=top 20
abbrev A_n (K:PySem.W.Frag) (mg:Str->Option Value):=DefAt K mg "take_out" s_n ["part","rows","number","many"]
theorem sc_n:FnScope ["part","rows","number","many","size","row","shorter","total"] ["part","rows","number","many"] (defScope s_n):=⟨rfl,rfl,rfl,by decide +kernel,rfl,by decide +kernel,by decide +kernel⟩
abbrev s_f:Stmt:=top 22
abbrev A_f (K:PySem.W.Frag) (mg:Str->Option Value):=DefAt K mg "many_with_first" s_f ["part","rows","number","many"]
theorem sc_f:FnScope ["part","rows","number","many"] ["part","rows","number","many"] (defScope s_f):=⟨rfl,rfl,rfl,by decide +kernel,rfl,by decide +kernel,by decide +kernel⟩
abbrev s_t:Stmt:=top 25
abbrev A_t (K:PySem.W.Frag) (mg:Str->Option Value):=DefAt K mg "way_at" s_t ["number","base","many","place"]
theorem sc_t:FnScope ["number","base","many","place","parts","rows","way","left","ahead","part","here"] ["number","base","many","place"] (defScope s_t):=⟨rfl,rfl,rfl,by decide +kernel,rfl,by decide +kernel,by decide +kernel⟩
section
variable {P:Program} {w:World} {K:PySem.W.Frag} {mg:Str->Option Value} {base:Heap}
def S_n:VSp:=fun W ds R=>∃(part:Int) (x:Addr) (N Kk:Nat) (ps:List Int) (ms:List (List Int)),ds=[.int part,.atom (.ref x),.int N,.int Kk]/\Mat W x ms/\M.Tab (part::ps) N Kk ms/\0<part/\part<=2000/\N<=2000/\Kk<=2000/\(∀y∈ps,y<=part) /\
 ∀W' ms',Mat W' x ms'->M.Tab ps N Kk ms'->R .non W'
theorem ok_n (T:Txt mg) (Df:A_n K mg) (D_q:A_q K mg):FnOk P w K mg base CX0 2 Df.f Df.fd ["part","rows","number","many"] (spV K S_n):=by
 have G_q:=ok_q (P:=P) (w:=w) (base:=base) T D_q
 refine Df.F.okV sc_n (fun W ds R h=>?_) (fun cdv A outer s H E C W ds R hK hr h=>?_)
 ·obtain ⟨_,_,_,_,_,_,rfl,_⟩:=h;rfl
 have hu:=hr.units
 obtain ⟨part,x,N,Kk,ps,ms,rfl,⟨bs,hx,nx,rw0⟩,hT,p0,p1,n1,k1,hps,q⟩:=h
 refine ⟨_,(v_one (v_for PassesOwn.never rfl (fun W ok=>(i_revR rfl T.z_reversed rfl T.z_range (a_cons (q_c pe_int (fun _=>.int _)) (a_cons (q_add (q_var (pv 3)) (q_c pe_int (fun _=>.int _))) a_nil)))) (fun W ok=>(g_name (i:=4) sc_n.nd rfl (by simp only [L2.QL]))) (v_cons (v_lift (fun W ok=>(s_set (i:=5) sc_n.nd rfl (by simp only [L2.QL]) (q_ixW ok hK (q_var (pv 1)) (q_var (pv 4)) (fun _ _=>rfl)))))
    (v_cons (v_lift (fun W ok=>(s_set (i:=6) sc_n.nd rfl (by simp only [L2.QL]) (q_ixW ok hK (q_var (pv 1)) (q_sub (q_var (pv 4)) (q_c pe_int (fun _=>.int _))) (fun _ _=>rfl)))))
    (v_one (v_for PassesOwn.never rfl (fun W ok=>(i_list hK (q_fz (n_call hK D_q G_q (hr.mono (by first|decide|omega)) (a_cons (q_var (pv 0)) (a_cons (q_var (pv 4)) (a_cons (q_var (pv 2)) (a_cons (q_var (pv 3)) a_nil)))))))) (fun W ok=>(g_name (i:=7) sc_n.nd rfl (by simp only [L2.QL]))) (v_one (v_augI ip_sub (fun W ok=>(q_var (pv 5))) (fun W ok=>(q_var (pv 7))) (fun W ok=>(q_ixW ok hK (q_var (pv 6)) (q_sub (q_var (pv 7)) (q_var (pv 0))) (fun _ _=>rfl))))))))))),?_⟩
 obtain ⟨I,hI⟩:∃I:Nat->Hp->PSt->Prop,I=(fun (i:Nat) W p=>∃(ms:List (List Int)) (w4 w5 w6 w7:Option D),W x=some (.lst (bs.map V.ref))/\Rws W bs ms/\M.TabO part ps N Kk i ms/\p=[some (.d (.int part)),some (.d (.atom (.ref x))),some (.d (.int N)),some (.d (.int Kk)),Option.map Sl.d w4,Option.map Sl.d w5,Option.map Sl.d w6,Option.map Sl.d w7]):=⟨_,rfl⟩
 refine vfor_q (n:=Kk) (item:=fun i=>.int ((Kk:Int) - (i:Int))) (p1:=_) (fun Q h=>by
  simp only [Q]
  have e:((Kk:Int)+1 - 1).toNat=Kk:=by omega
  rw [e]
  have e2:∀k:Nat,(1:Int)+(Kk:Int) - 1 - (k:Int)=(Kk:Int) - (k:Int):=fun k=>by omega
  simp only [e2]
  exact ⟨by omega,by omega,h⟩) I (by rw [hI];exact ⟨ms,none,none,none,none,hx,rw0,hT.startO,rfl⟩) ?_ ?_
 ·intro i W p hi hp
  rw [hI] at hp
  obtain ⟨ms,w4,w5,w6,w7,hx,rw1,hT,rfl⟩:=hp
  obtain ⟨i0,hi0⟩:∃i0:Nat,i0+1+i=Kk:=⟨Kk - i - 1,by omega⟩
  have es:(Kk:Int) - (i:Int)=1+(i0:Int):=by omega
  rw [es]
  have hb:bs.length=ms.length:=rw1.len
  have hl:=hT.shp.len
  obtain ⟨b1,e1⟩:∃b,bs[i0+1]? = some b:=⟨_,List.getElem?_eq_getElem (by omega)⟩
  obtain ⟨b0,e0⟩:∃b,bs[i0]? = some b:=⟨_,List.getElem?_eq_getElem (by omega)⟩
  have f1:atI (bs.map V.ref) (1+(i0:Int))=some (.ref b1):=atI_refs (by omega) (by rw [show (1+(i0:Int)).toNat=i0+1 by omega];exact e1)
  have f0:atI (bs.map V.ref) (1+(i0:Int) - 1)=some (.ref b0):=atI_refs (by omega) (by rw [show (1+(i0:Int) - 1).toNat=i0 by omega];exact e0)
  simp only [R]
  refine vseq_goK fun kk hkk=>?_
  simp only [R,hx,f1]
  refine hkk _ _ ?_
  refine vseq_goK fun kk hkk=>?_
  simp only [R,hx,f0]
  refine hkk _ _ ?_
  refine vfor_c ?_
  simp only [R,S_q]
  refine ⟨by omega,by omega,by omega,by omega,by omega,by omega,by omega,by omega,?_⟩
  obtain ⟨z,hz⟩:∃z:Int,z=(if (N:Int) - (Kk:Int)+(1+(i0:Int))<part * (1+(i0:Int)) then (N:Int) - (Kk:Int)+(1+(i0:Int)) else part * (1+(i0:Int))):=⟨_,rfl⟩
  rw [<-hz]
  have z1:z<=(N:Int) - (Kk:Int)+(1+(i0:Int)):=by rw [hz];split<;>omega
  have z2:∀t:Int,t<=(N:Int) - (Kk:Int)+(1+(i0:Int))->z<t->part * ((i0:Int)+1)<t:=fun t h1 h2=>by
   rw [Int.add_comm (i0:Int) 1]
   rw [hz] at h2
   split at h2<;>omega
  obtain ⟨n,hn⟩:∃n,n=(z+1 - (part+(1+(i0:Int)) - 1)).toNat:=⟨_,rfl⟩
  rw [<-hn]
  obtain ⟨J,hJ⟩:∃J:Nat->Hp->PSt->Prop,J=(fun (k:Nat) W p=>∃(ms:List (List Int)) (w7:Option D),W x=some (.lst (bs.map V.ref))/\Rws W bs ms/\M.TabP part ps N Kk i0 (part+(i0:Int)+(k:Int)) ms/\p=[some (.d (.int part)),some (.d (.atom (.ref x))),some (.d (.int N)),some (.d (.int Kk)),some (.d (.int (1+(i0:Int)))),some (.d (.atom (.ref b1))),some (.d (.atom (.ref b0))),Option.map Sl.d w7]):=⟨_,rfl⟩
  refine vfor_q (n:=((rngL (part+(1+(i0:Int)) - 1) n).map D.int).length) (item:=fun k=>((rngL (part+(1+(i0:Int)) - 1) n).map D.int).getD k .non) (p1:=_) (fun Q h=>h) J (by rw [hJ];exact ⟨ms,w7,hx,rw1,by have:=hT.go (i:=i0) p0 (by omega);simpa using this,rfl⟩) ?_ ?_
  ·intro k W p hk hp
   rw [hJ] at hp
   obtain ⟨ms,w7,hx,rw2,hT,rfl⟩:=hp
   rw [List.length_map,rngL_len] at hk
   rw [getD_rng hk]
   have ec:part+(1+(i0:Int)) - 1+(k:Int)=part+(i0:Int)+(k:Int):=by omega
   rw [ec]
   obtain ⟨c,hc⟩:∃c,c=part+(i0:Int)+(k:Int):=⟨_,rfl⟩
   rw [<-hc] at hT ⊢
   obtain ⟨g1,g0⟩:=hT.read (by omega) (t0:=c.toNat) (by omega) p0 (by omega) (by omega)
   obtain ⟨r1,s1,y1⟩:=M.at2_some g1
   obtain ⟨r0,s0,y0⟩:=M.at2_some g0
   have h1:=rw2.at_ _ _ _ e1 s1
   have h0:=rw2.at_ _ _ _ e0 s0
   have x1:(r1.map V.int)[c.toNat]? = some (.int (M.cg true (part::ps) (i0+1) c)):=by rw [List.getElem?_map,y1];rfl
   have x0:atI (r0.map V.int) (c - part)=some (.int (M.cg true (part::ps) i0 (c - part))):=atI_ints (by omega) y0
   simp only [R,h1,h0,x1,x0]
   refine ⟨by omega,?_⟩
   rw [hJ,set_ints]
   have nb:x≠b1:=fun e=>nx (by rw [e];exact List.mem_of_getElem? e1)
   refine ⟨_,some (.int c),by rw [upd_ne nb];exact hx,rw2.wr e1,?_,rfl⟩
   have:=hT.step p0 (by omega) (t0:=c.toNat) (by omega) (by omega) (by omega) s1 rfl
   have e2:part+(i0:Int)+((k+1:Nat):Int)=c+1:=by rw [hc];push_cast;omega
   rw [e2]
   exact this
  ·intro W p hp
   rw [hJ] at hp
   obtain ⟨ms,w7,hx,rw2,hT,rfl⟩:=hp
   rw [List.length_map,rngL_len] at hT
   show I (i+1) _ _
   rw [hI]
   refine ⟨ms,some (.int (1+(i0:Int))),some _,some _,w7,hx,rw2,hT.fin (j:=i) (by omega) p0 hps fun t h1 h2=>z2 t (by omega) (by omega),rfl⟩
 ·intro W p hp
  rw [hI] at hp
  obtain ⟨ms,w4,w5,w6,w7,hx,rw1,hT,rfl⟩:=hp
  exact q W ms ⟨bs,hx,nx,rw1⟩ hT.fin
def S_f:VSp:=fun W ds R=>∃(part:Int) (x:Addr) (N Kk:Nat) (ps:List Int) (ms:List (List Int)),ds=[.int part,.atom (.ref x),.int N,.int Kk]/\Mat W x ms/\M.Tab (part::ps) N Kk ms/\0<part/\R (.int (M.cf part ps Kk N)) W
theorem ok_f (T:Txt mg) (Df:A_f K mg):FnOk P w K mg base CX0 1 Df.f Df.fd ["part","rows","number","many"] (spV K S_f):=by
 refine Df.F.okV sc_f (fun W ds R h=>?_) (fun cdv A outer s H E C W ds R hK hr h=>?_)
 ·obtain ⟨_,_,_,_,_,_,rfl,_⟩:=h;rfl
 have hu:=hr.units
 obtain ⟨part,x,N,Kk,ps,ms,rfl,⟨bs,hx,nx,rw0⟩,hT,p0,q⟩:=h
 refine ⟨_,(v_cons (v_lift (fun W ok=>(s_if (PW.pt (w_or (t_eq hK hu (q_var (pv 3)) (q_c pe_int (fun _=>.int _))) (w_or1 (t_gt (q_var (pv 0)) (q_var (pv 2)))))) (s_one (s_ret (n_val (q_c pe_int (fun _=>.int _))))) s_nil)))
    (v_one (v_lift (fun W ok=>(s_ret (n_val (q_ixW ok hK (q_ixW ok hK (q_var (pv 1)) (q_sub (q_var (pv 3)) (q_c pe_int (fun _=>.int _))) (fun _ _=>rfl)) (q_sub (q_var (pv 2)) (q_var (pv 0))) (fun _ _=>rfl)))))))),?_⟩
 refine vseq_goK fun kk hkk=>?_
 by_cases c:Kk=0\/(N:Int)<part
 ·have e:M.cf part ps Kk N=0:=by unfold M.cf;rw [if_pos c]
  rw [e] at q
  simp only [R]
  by_cases k0:(Kk:Int)=0
  ·rw [if_pos k0];exact q
  ·rw [if_neg k0,if_pos (by omega)];exact q
 ·have e:M.cf part ps Kk N=M.cg true (part::ps) (Kk - 1) ((N:Int) - part):=by unfold M.cf;rw [if_neg c]
  rw [e] at q
  simp only [R]
  rw [if_neg (by omega),if_neg (by omega)]
  refine hkk _ _ ?_
  have hb:=rw0.len
  have hl:=hT.shp.len
  have g:=hT.val (Kk - 1) ((N:Int) - part).toNat (by omega) (by omega)
  rw [show ((((N:Int) - part).toNat:Nat):Int)=(N:Int) - part by omega] at g
  obtain ⟨r,s1,y1⟩:=M.at2_some g
  obtain ⟨b',e1⟩:∃b',bs[Kk - 1]? = some b':=⟨_,List.getElem?_eq_getElem (by omega)⟩
  have f1:atI (bs.map V.ref) ((Kk:Int) - 1)=some (.ref b'):=atI_refs (by omega) (by rw [show ((Kk:Int) - 1).toNat=Kk - 1 by omega];exact e1)
  have h1:=rw0.at_ _ _ _ e1 s1
  have x1:atI (r.map V.int) ((N:Int) - part)=some (.int (M.cg true (part::ps) (Kk - 1) ((N:Int) - part))):=atI_ints (by omega) y1
  simp only [R,hx,f1,h1,x1]
  exact q
theorem getD_back {qs:List Int} {i:Nat} (h:i<qs.length):(qs.map D.int).getD (qs.length - 1 - i) .non=.int (qs.reverse.getD i 0):=by
 rw [List.getD_eq_getElem?_getD,List.getElem?_map,List.getD_eq_getElem?_getD,List.getElem?_reverse h,List.getElem?_eq_getElem (show qs.length - 1 - i<qs.length by omega)];rfl
theorem drop_at {ps:List Int} {i:Nat} (h:i<ps.length):ps.drop i=ps.getD i 0::ps.drop (i+1):=by
 rw [List.drop_eq_getElem_cons h,List.getD_eq_getElem?_getD,List.getElem?_eq_getElem h];rfl
theorem cf_pos {p:Int} {ps:List Int} {K:Nat} {N a:Int} (h0:0<=a) (h:a<M.cf p ps K N):0<K/\p<=N:=by
 unfold M.cf at h
 by_cases z:K=0\/N<p
 ·rw [if_pos z] at h;omega
 ·omega
def S_t:PSp:=fun as R=>∃(n b pl:Int) (k:Nat),as=[.d (.int n),.d (.int b),.d (.int k),.d (.int pl)]/\0<=n/\n<=2000/\2<=b/\b<=36/\k<=2000/\0<=pl/\pl<M.cg true (M.mto b n).reverse k n/\R (.ro ((M.wat (M.mto b n).reverse k n pl).map D.int)) as
theorem ok_t (T:Txt mg) (Df:A_t K mg) (D_b:A_b K mg) (D_a:A_a K mg) (D_p:A_p K mg) (D_d:A_d K mg) (D_e:A_e K mg) (D_g:A_g K mg) (D_c:A_c K mg) (D_q:A_q K mg) (D_v:A_v K mg) (D_m:A_m K mg) (D_f:A_f K mg) (D_n:A_n K mg):FnOk P w K mg base CX0 5 Df.f Df.fd ["number","base","many","place"] (spOf K S_t):=by
 have G_a:=ok_a (P:=P) (w:=w) (base:=base) T D_a D_b
 have G_c:=ok_c (P:=P) (w:=w) (base:=base) T D_c D_p D_d D_e D_b D_a D_g
 have G_m:=ok_m (P:=P) (w:=w) (base:=base) T D_m D_q D_v
 have G_f:=ok_f (P:=P) (w:=w) (base:=base) T D_f
 have G_n:=ok_n (P:=P) (w:=w) (base:=base) T D_n D_q
 have G_b:=ok_b (P:=P) (w:=w) (base:=base) T D_b
 refine Df.F.okP sc_t (fun as R h=>?_) (fun cdv A outer s H E C as R hK hr h=>?_)
 ·obtain ⟨_,_,_,_,rfl,_⟩:=h;rfl
 have hu:=hr.units
 obtain ⟨n,b,pl,k,rfl,n0,n1,b0,b1,k1,l0,l1,q⟩:=h
 obtain ⟨N,rfl⟩:∃N:Nat,n=(N:Int):=⟨n.toNat,by omega⟩
 refine ⟨_,(ss_ofV (v_cons (v_lift (fun W ok=>(s_H (q_fz (n_call hK D_a G_a (hr.mono (by first|decide|omega)) (a_cons (q_var (pv 1)) a_nil))))))
    (v_cons (v_lift (fun W ok=>(s_if (PW.pt (w_or (t_not (t_val (q_fz (n_call hK D_b G_b (hr.mono (by first|decide|omega)) (a_cons (q_var (pv 3)) a_nil))))) (w_or1 (t_lt (q_var (pv 3)) (q_c pe_int (fun _=>.int _)))))) (s_one s_J) s_nil)))
    (v_cons (v_lift (fun W ok=>(s_set (i:=4) sc_t.nd rfl (by simp only [L2.QL]) (q_fz (n_call hK D_c G_c (hr.mono (by first|decide|omega)) (a_cons (q_var (pv 0)) (a_cons (q_var (pv 1)) a_nil)))))))
    (v_cons (v_set (i:=5) sc_t.nd rfl (by simp only [L2.QL]) (v_call hK D_m G_m (hr.mono (by first|decide|omega)) (fun W ok=>(a_cons (q_var (pv 4)) (a_cons (q_var (pv 0)) (a_cons (q_var (pv 2)) a_nil))))))
    (v_cons (v_lift (fun W ok=>(s_if (t_ge (q_var (pv 3)) (q_ixW ok hK (q_ixW ok hK (q_var (pv 5)) (q_var (pv 2)) (fun _ _=>rfl)) (q_var (pv 0)) (fun _ _=>rfl))) (s_one s_J) s_nil)))
    (v_cons (v_lift (fun W ok=>(s_setN (i:=6) sc_t.nd rfl (by simp only [L2.QL]) (n_lst a_nil))))
    (v_cons (v_lift (fun W ok=>(s_set (i:=7) sc_t.nd rfl (by simp only [L2.QL]) (q_var (pv 0)))))
    (v_cons (v_lift (fun W ok=>(s_set (i:=8) sc_t.nd rfl (by simp only [L2.QL]) (q_var (pv 3)))))
    (v_cons (v_for PassesOwn.never rfl (fun W ok=>(i_rev hK rfl T.z_reversed (a_cons (q_var (pv 4)) a_nil))) (fun W ok=>(g_name (i:=9) sc_t.nd rfl (by simp only [L2.QL]))) (v_cons (v_set (i:=10) sc_t.nd rfl (by simp only [L2.QL]) (v_call hK D_f G_f (hr.mono (by first|decide|omega)) (fun W ok=>(a_cons (q_var (pv 9)) (a_cons (q_var (pv 5)) (a_cons (q_var (pv 7)) (a_cons (q_sub (q_var (pv 2)) (cb_len hK rfl T.z_len (a_cons (q_var (pv 6)) a_nil))) a_nil)))))))
    (v_cons (v_while PassesOwn.never (fun W ok=>(t_lt (q_var (pv 8)) (q_var (pv 10)))) (v_cons (v_lift (fun W ok=>(s_H (m_append hK (pv 6) (a_cons (q_var (pv 9)) a_nil)))))
    (v_cons (v_lift (fun W ok=>(s_K (i:=7) sc_t.nd rfl (by simp only [L2.QL]) (q_var (pv 9)))))
    (v_one (v_set (i:=10) sc_t.nd rfl (by simp only [L2.QL]) (v_call hK D_f G_f (hr.mono (by first|decide|omega)) (fun W ok=>(a_cons (q_var (pv 9)) (a_cons (q_var (pv 5)) (a_cons (q_var (pv 7)) (a_cons (q_sub (q_var (pv 2)) (cb_len hK rfl T.z_len (a_cons (q_var (pv 6)) a_nil))) a_nil)))))))))))
    (v_cons (v_lift (fun W ok=>(s_K (i:=8) sc_t.nd rfl (by simp only [L2.QL]) (q_var (pv 10)))))
    (v_one (v_expr (v_call hK D_n G_n (hr.mono (by first|decide|omega)) (fun W ok=>(a_cons (q_var (pv 9)) (a_cons (q_var (pv 5)) (a_cons (q_var (pv 7)) (a_cons (q_sub (q_var (pv 2)) (cb_len hK rfl T.z_len (a_cons (q_var (pv 6)) a_nil))) a_nil))))))))))))
    (v_one (v_lift (fun W ok=>(s_retO (i:=6) (pv 6))))))))))))))),?_⟩
 show vSeq _ _ _ _ _
 refine vseq_goK fun kk hkk=>?_
 simp only [R,S_a]
 refine ⟨b0,b1,hkk _ _ ?_⟩
 refine vseq_goK fun kk hkk=>?_
 simp only [R,S_b]
 rw [if_neg (by omega)]
 refine hkk _ _ ?_
 refine vseq_goK fun kk hkk=>?_
 simp only [R,S_c]
 refine ⟨by omega,by omega,b0,b1,hkk _ _ ?_⟩
 refine vseq_goK fun kk hkk=>?_
 simp only [R,S_m]
 have bd:=mto_bd (b:=b) (n:=(N:Int)) (by omega)
 refine ⟨M.mto b N,rfl,N,rfl,k,rfl,by omega,k1,fun y hy=>?_,M.mto_sorted b N,fun W' x ms hM hT=>hkk _ _ ?_⟩
 ·have:=bd y hy
  omega
 have g:=hT.val k N (Nat.le_refl _) (Nat.le_refl _)
 refine vseq_goK fun kk hkk=>?_
 have rd:∃(bs:List Addr) (b':Addr) (r:List Int),W' x=some (.lst (bs.map V.ref))/\atI (bs.map V.ref) (k:Int)=some (.ref b')/\W' b'=some (.lst (List.map V.int r))/\atI (List.map V.int r) (N:Int)=some (.int (M.cg true (M.mto b N).reverse k N)):=by
  obtain ⟨bs,hx,nx,rw0⟩:=hM
  have hb:=rw0.len
  have hl:=hT.shp.len
  obtain ⟨r,s1,y1⟩:=M.at2_some g
  obtain ⟨b',e1⟩:∃b',bs[k]? = some b':=⟨_,List.getElem?_eq_getElem (by omega)⟩
  exact ⟨bs,b',r,hx,atI_refs (by omega) (by rw [Int.toNat_natCast];exact e1),rw0.at_ _ _ _ e1 s1,atI_ints (by omega) (by rw [Int.toNat_natCast];exact y1)⟩
 obtain ⟨bs,b',r,r1,r2,r3,r4⟩:=rd
 simp only [R,r1,r2,r3,r4]
 rw [if_neg (by omega)]
 refine hkk _ _ ?_
 clear r1 r2 r3 r4 hkk
 refine vseq_goK fun kk hkk=>?_
 simp only [R]
 refine hkk _ _ ?_
 refine vseq_goK fun kk hkk=>?_
 simp only [R]
 refine hkk _ _ ?_
 refine vseq_goK fun kk hkk=>?_
 simp only [R]
 refine hkk _ _ ?_
 have srt:(M.mto b N).reverse.Pairwise (fun x y=>y<x):=List.pairwise_reverse.mpr (M.mto_sorted b N)
 have bd':∀y∈(M.mto b N).reverse,(0:Int)<y/\y<=N:=fun y hy=>bd y (List.mem_reverse.mp hy)
 have gb:∀i,i<(M.mto b N).length->((M.mto b N).map D.int).getD ((M.mto b N).length - 1 - i) .non=.int ((M.mto b N).reverse.getD i 0):=fun i hi=>getD_back hi
 have ln:(M.mto b N).reverse.length=(M.mto b N).length:=List.length_reverse
 generalize M.mto b (N:Int)=qs at hT srt bd' gb ln q
 generalize qs.reverse=ps at hT srt bd' gb ln q
 obtain ⟨I,hI⟩:∃I:Nat->Hp->PSt->Prop,I=(fun (i:Nat) W p=>∃(ms:List (List Int)) (way:List Int) (N' K':Nat) (ah:Int) (w9 w10:Option D),Mat W x ms/\M.Tab (ps.drop i) N' K' ms/\N'<=N/\way.length+K'=k/\0<=ah/\way++M.wat (ps.drop i) K' N' ah=M.wat ps k N pl /\
  p=[some (.d (.int N)),some (.d (.int b)),some (.d (.int k)),some (.d (.int pl)),some (.d (.lst (qs.map D.int))),some (.d (.atom (.ref x))),some (.own (way.map D.int)),some (.d (.int N')),some (.d (.int ah)),Option.map Sl.d w9,Option.map Sl.d w10]):=⟨_,rfl⟩
 refine vseq_goP (vfor_q (n:=(qs.map D.int).length) (item:=fun i=>(qs.map D.int).getD ((qs.map D.int).length - 1 - i) .non) (p1:=_) (fun Q h=>by simp only [Q];exact h) I (by rw [hI];exact ⟨ms,[],N,k,pl,none,none,hM,hT,Nat.le_refl _,by simp,l0,rfl,rfl⟩) ?_ ?_)
 ·intro i W p hi hp
  rw [hI] at hp
  obtain ⟨ms,way,N',K',ah,w9,w10,hM,hT,hN',hk',a0,hw,rfl⟩:=hp
  rw [List.length_map] at hi ⊢
  rw [gb i hi]
  rw [<-ln] at hi
  have da:=drop_at hi
  have hm:ps.getD i 0∈ps:=by rw [List.getD_eq_getElem?_getD,List.getElem?_eq_getElem hi];exact List.getElem_mem hi
  obtain ⟨p0,p1⟩:=bd' _ hm
  have hps:∀y∈ps.drop (i+1),y<=ps.getD i 0:=fun y hy=>by
   have s2:=srt.drop (i:=i)
   rw [da,List.pairwise_cons] at s2
   have:=s2.1 y hy
   omega
  rw [da] at hT hw
  generalize ps.getD i 0=pt at p0 p1 hT hw hps
  generalize hps':ps.drop (i+1)=ps' at hT hw hps
  simp only [R]
  refine vseq_goK fun kk hkk=>?_
  simp only [R,S_f]
  refine ⟨N',rfl,K',by rw [List.length_map];omega,ps',ms,hM,hT,p0,hkk _ _ ?_⟩
  obtain ⟨J,hJ⟩:∃J:Hp->PSt->Prop,J=(fun W p=>∃(ms:List (List Int)) (way:List Int) (N' K':Nat),Mat W x ms/\M.Tab (pt::ps') N' K' ms/\N'<=N/\way.length+K'=k/\way++M.wat (pt::ps') K' N' ah=M.wat ps k N pl /\
   p=[some (.d (.int N)),some (.d (.int b)),some (.d (.int k)),some (.d (.int pl)),some (.d (.lst (qs.map D.int))),some (.d (.atom (.ref x))),some (.own (way.map D.int)),some (.d (.int N')),some (.d (.int ah)),some (.d (.int pt)),some (.d (.int (M.cf pt ps' K' N')))]):=⟨_,rfl⟩
  refine vseq_goP (vwhile_q J (fun p=>match p[6]? with|some (some (Sl.own xs))=>k - xs.length|_=>0) (by rw [hJ];exact ⟨ms,way,N',K',hM,hT,hN',hk',hw,rfl⟩) ?_)
  intro W1 p1 hp1
  rw [hJ] at hp1
  obtain ⟨ms,way,N',K',hM,hT,hN',hk',hw,rfl⟩:=hp1
  simp only [R]
  by_cases c:ah<M.cf pt ps' K' N'
  ·rw [if_pos c]
   obtain ⟨c1,c2⟩:=cf_pos a0 c
   rw [M.wat_yes ⟨c1,c⟩] at hw
   refine vseq_goK fun kk hkk=>?_
   simp only [R]
   refine ⟨by rw [List.length_map];omega,hkk _ _ ?_⟩
   refine vseq_goK fun kk hkk=>?_
   simp only [R]
   refine hkk _ _ ?_
   have ew:way.map D.int++[D.int pt]=(way++[pt]).map D.int:=by rw [List.map_append];rfl
   rw [ew]
   simp only [R,S_f]
   refine ⟨(N':Int).toNat - pt.toNat,by omega,K' - 1,by rw [List.length_map,List.length_append,List.length_singleton];omega,ps',ms,hM,hT.less (by omega) (by omega),p0,?_⟩
   have en:(((N':Int).toNat - pt.toNat:Nat):Int)=(N':Int) - pt:=by omega
   rw [en]
   refine ⟨?_,by rw [List.length_map,List.length_append,List.length_singleton,List.length_map];omega⟩
   rw [hJ]
   exact ⟨ms,way++[pt],(N':Int).toNat - pt.toNat,K' - 1,hM,hT.less (by omega) (by omega),by omega,by rw [List.length_append,List.length_singleton];omega,by rw [en,List.append_assoc];exact hw,by rw [en]⟩
  ·rw [if_neg c]
   rw [M.wat_no (fun z=>c z.2)] at hw
   refine vseq_goK fun kk hkk=>?_
   simp only [R]
   refine hkk _ _ ?_
   simp only [R,S_n]
   refine ⟨N',rfl,K',by rw [List.length_map];omega,ps',ms,hM,hT,p0,by omega,by omega,by omega,hps,fun W' ms' hM' hT'=>?_⟩
   show I (i+1) _ _
   subst hps'
   rw [hI]
   exact ⟨ms',way,N',K',ah - M.cf pt (ps.drop (i+1)) K' N',some _,some _,hM',hT',hN',hk',by omega,hw,rfl⟩
 ·intro W p hp
  rw [hI] at hp
  obtain ⟨ms,way,N',K',ah,w9,w10,hM,hT,hN',hk',a0,hw,rfl⟩:=hp
  rw [List.length_map,<-ln,List.drop_length,M.wat_nil,List.append_nil] at hw
  rw [<-hw] at q
  simp only [Q]
  exact q
end
abbrev s_x:Stmt:=top 26
abbrev A_x (K:PySem.W.Frag) (mg:Str->Option Value):=DefAt K mg "is_way" s_x ["number","base","thing"]
theorem sc_x:FnScope ["number","base","thing","left","most","part"] ["number","base","thing"] (defScope s_x):=⟨rfl,rfl,rfl,by decide +kernel,rfl,by decide +kernel,by decide +kernel⟩
abbrev s_k:Stmt:=top 27
abbrev A_k (K:PySem.W.Frag) (mg:Str->Option Value):=DefAt K mg "way_place" s_k ["number","base","thing"]
theorem sc_k:FnScope ["number","base","thing","many","parts","rows","place","left","part"] ["number","base","thing"] (defScope s_k):=⟨rfl,rfl,rfl,by decide +kernel,rfl,by decide +kernel,by decide +kernel⟩
section
variable {P:Program} {w:World} {K:PySem.W.Frag} {mg:Str->Option Value} {base:Heap}
theorem sum_pos1:∀l:List Int,(∀x∈l,(1:Int)<=x)->0<=l.sum
 | [],_=>by simp
 | x::l,h=>by
  rw [List.sum_cons]
  have:=h x (by simp)
  have:=sum_pos1 l fun y hy=>h y (by simp [hy])
  omega
structure WayL (b n:Int) (L:List Int):Prop where
 mem:∀x∈L,(1:Int)<=x/\M.mir b x=true
 fall:L.Pairwise (fun x y=>y<=x)
 sum:L.sum=n
theorem WayL.le {b n:Int} {L:List Int} (w:WayL b n L):∀i,i<=L.length->(L.take i).sum<=n/\(i<L.length->(L.take i).sum+L.getD i 0<=n):=fun i hi=>by
 have ts:(L.take i).sum+(L.drop i).sum=L.sum:=by rw [<-List.sum_append,List.take_append_drop]
 have d0:=sum_pos1 (L.drop i) fun x hx=>(w.mem x (List.mem_of_mem_drop hx)).1
 have hs:=w.sum
 refine ⟨by omega,fun h=>?_⟩
 have da:L.drop i=L.getD i 0::L.drop (i+1):=by rw [List.drop_eq_getElem_cons h,List.getD_eq_getElem?_getD,List.getElem?_eq_getElem h];rfl
 have d1:=sum_pos1 (L.drop (i+1)) fun x hx=>(w.mem x (List.mem_of_mem_drop hx)).1
 rw [da,List.sum_cons] at ts
 omega
def wgI (b:Int):List Int->Int->Int->Bool
 | [],left,_=>decide (left=0)
 | i::xs,left,most=>if 0<i/\i<=most/\M.mir b i=true then wgI b xs (left - i) (if left - i<i then left - i else i) else false
theorem mem_le_sum:∀{L:List Int},(∀x∈L,(1:Int)<=x)->∀x∈L,x<=L.sum
 | [],_,x,hx=>by cases hx
 | y::L,h,x,hx=>by
  have h':∀x∈L,(1:Int)<=x:=fun z hz=>h z (List.mem_cons_of_mem _ hz)
  have s:=sum_pos1 L h'
  have hy:=h y List.mem_cons_self
  rw [List.sum_cons]
  rcases List.mem_cons.mp hx with rfl|hx
  ·omega
  ·have:=mem_le_sum h' x hx
   omega
theorem wgI_way {b:Int}:∀{L:List Int} {left most:Int},WayL b left L->(∀x∈L,x<=most)->wgI b L left most=true
 | [],left,most,w,_=>by
  have:=w.sum
  rw [List.sum_nil] at this
  unfold wgI
  exact decide_eq_true this.symm
 | x::L,left,most,w,h=>by
  have hx:=w.mem x List.mem_cons_self
  have hs:=w.sum
  rw [List.sum_cons] at hs
  have f:=List.pairwise_cons.mp w.fall
  have m':∀y∈L,(1:Int)<=y/\M.mir b y=true:=fun y hy=>w.mem y (List.mem_cons_of_mem _ hy)
  unfold wgI
  rw [if_pos ⟨by omega,h x List.mem_cons_self,hx.2⟩]
  refine wgI_way ⟨m',f.2,by omega⟩ fun y hy=>?_
  have h1:=f.1 y hy
  have h2:=mem_le_sum (fun z hz=>(m' z hz).1) y hy
  split<;>omega
def S_x:PSp:=fun as R=>∃(n b:Int) (L:List Int),as=[.d (.int n),.d (.int b),.d (.lst (L.map D.int))]/\0<=n/\n<=2000/\2<=b/\b<=36/\R (.rd (.bl (wgI b L n n))) as
theorem ok_x (T:Txt mg) (Df:A_x K mg) (D_b:A_b K mg) (D_a:A_a K mg) (D_g:A_g K mg) (D_h:A_h K mg):FnOk P w K mg base CX0 5 Df.f Df.fd ["number","base","thing"] (spOf K S_x):=by
 have G_b:=ok_b (P:=P) (w:=w) (base:=base) T D_b
 have G_h:=ok_h (P:=P) (w:=w) (base:=base) T D_h D_b D_a D_g
 refine Df.F.okP sc_x (fun as R h=>?_) (fun cdv A outer s H E C as R hK hr h=>?_)
 ·obtain ⟨_,_,_,rfl,_⟩:=h;rfl
 have hu:=hr.units
 obtain ⟨n,b,L,rfl,n0,n1,b0,b1,q⟩:=h
 generalize hr':wgI b L n n=r at q
 refine ⟨_,(s_s (s_if (t_not (t_val (cb_isi (T:="list") hK (by first|exact .inl rfl|exact .inr (.inl rfl)|exact .inr (.inr (.inl rfl))|exact .inr (.inr (.inr (.inl rfl)))|exact .inr (.inr (.inr (.inr rfl)))) rfl T.z_isinstance (a_cons (q_var (pv 2)) (a_cons (q_c (pe_bltn (v:=.ty "list") rfl T.z_list (by kernel_rfl) rfl) (fun _=>.atom _)) a_nil))))) (s_one (s_ret (n_val (q_c pe_bl (fun _=>.bl _))))) s_nil)
    (s_s (s_set (i:=3) sc_x.nd rfl (by simp only [L2.QL]) (q_var (pv 0)))
    (s_s (s_set (i:=4) sc_x.nd rfl (by simp only [L2.QL]) (q_var (pv 0)))
    (s_s (s_for PassesOwn.never rfl (i_list hK (q_var (pv 2))) (g_name (i:=5) sc_x.nd rfl (by simp only [L2.QL])) (s_s (s_if (PW.pt (w_or (t_not (t_val (q_fz (n_call hK D_b G_b (hr.mono (by first|decide|omega)) (a_cons (q_var (pv 5)) a_nil))))) (w_or (t_not (t_chain op_lt op_le (q_c pe_int (fun _=>.int _)) (q_var (pv 5)) (q_var (pv 4)))) (w_or1 (t_not (t_val (q_fz (n_call hK D_h G_h (hr.mono (by first|decide|omega)) (a_cons (q_var (pv 5)) (a_cons (q_var (pv 1)) a_nil)))))))))) (s_one (s_ret (n_val (q_c pe_bl (fun _=>.bl _))))) s_nil)
    (s_s (s_K (i:=3) sc_x.nd rfl (by simp only [L2.QL]) (q_var (pv 5)))
    (s_one (s_set (i:=4) sc_x.nd rfl (by simp only [L2.QL]) (cb_min rfl rfl T.z_min (a_cons (q_var (pv 5)) (a_cons (q_var (pv 3)) a_nil))))))))
    (s_one (s_ret (n_val (q_eq hK hu (q_var (pv 3)) (q_c pe_int (fun _=>.int _)))))))))),?_⟩
 refine seq_goK fun kk hkk=>?_
 simp only [R]
 refine hkk _ ?_
 clear hkk kk
 refine seq_goK fun kk hkk=>?_
 simp only [R]
 refine hkk _ ?_
 clear hkk kk
 refine seq_goK fun kk hkk=>?_
 simp only [R]
 refine hkk _ ?_
 clear hkk kk
 obtain ⟨I,hI⟩:∃I:Nat->PSt->Prop,I=(fun (i:Nat) p=>∃(left mo:Int) (w5:Option D),mo<=n/\wgI b (L.drop i) left mo=r/\p=[some (.d (.int n)),some (.d (.int b)),some (.d (.lst (L.map D.int))),some (.d (.int left)),some (.d (.int mo)),Option.map Sl.d w5]):=⟨_,rfl⟩
 refine seq_goP (for_q (n:=(L.map D.int).length) (item:=fun i=>(L.map D.int).getD i .non) (p1:=_) (fun Q h=>by simp only [Q];exact h) I (by rw [hI];exact ⟨n,n,none,Int.le_refl _,hr',rfl⟩) ?_ ?_)
 ·intro i p hi hp
  rw [hI] at hp
  obtain ⟨left,mo,w5,mn,hw,rfl⟩:=hp
  rw [List.length_map] at hi
  rw [getD_ints hi]
  have da:L.drop i=L.getD i 0::L.drop (i+1):=by rw [List.drop_eq_getElem_cons hi,List.getD_eq_getElem?_getD,List.getElem?_eq_getElem hi];rfl
  rw [da] at hw
  generalize L.getD i 0=x at hw
  have bad:¬(0<x/\x<=mo/\M.mir b x=true)->R (.rd (.bl false)) [.d (.int n),.d (.int b),.d (.lst (L.map D.int))]:=fun z=>by
   unfold wgI at hw
   rw [if_neg z] at hw
   rw [hw];exact q
  simp only [R]
  refine seq_goK fun kk hkk=>?_
  simp only [R,S_b,S_h]
  refine ite2 (fun j0=>ite2 (fun jm=>⟨by omega,M.big_40 (Int.le_trans (show x<=10 ^ 6 by omega) (by decide)),b0,b1,?_⟩) (fun jm=>bad fun z=>jm z.2.1)) (fun j0=>bad fun z=>j0 z.1)
  by_cases jr:M.mir b x=true
  ·rw [if_neg (by rw [jr];decide)]
   refine hkk _ ?_
   clear hkk kk
   unfold wgI at hw
   rw [if_pos ⟨j0,jm,jr⟩] at hw
   simp only [Q]
   rw [hI]
   exact ⟨left - x,_,some (.int x),by split<;>omega,hw,rfl⟩
  ·rw [if_pos (by simpa using jr)];exact bad fun z=>jr z.2.2
 ·intro p hp
  rw [hI] at hp
  obtain ⟨left,mo,w5,mn,hw,rfl⟩:=hp
  rw [List.length_map,List.drop_length] at hw
  have e:decide (left=0)=r:=hw
  simp only [Q,e]
  exact q
def S_k:PSp:=fun as R=>∃(n b:Int) (L:List Int),as=[.d (.int n),.d (.int b),.d (.lst (L.map D.int))]/\0<=n/\n<=2000/\2<=b/\b<=36/\WayL b n L/\L.length<=2000/\R (.rd (.int (M.rk (M.mto b n).reverse n L))) as
theorem ok_k (T:Txt mg) (Df:A_k K mg) (D_b:A_b K mg) (D_a:A_a K mg) (D_p:A_p K mg) (D_d:A_d K mg) (D_e:A_e K mg) (D_g:A_g K mg) (D_c:A_c K mg) (D_q:A_q K mg) (D_v:A_v K mg) (D_m:A_m K mg) (D_h:A_h K mg) (D_x:A_x K mg) (D_f:A_f K mg) (D_n:A_n K mg):FnOk P w K mg base CX0 6 Df.f Df.fd ["number","base","thing"] (spOf K S_k):=by
 have G_a:=ok_a (P:=P) (w:=w) (base:=base) T D_a D_b
 have G_c:=ok_c (P:=P) (w:=w) (base:=base) T D_c D_p D_d D_e D_b D_a D_g
 have G_m:=ok_m (P:=P) (w:=w) (base:=base) T D_m D_q D_v
 have G_x:=ok_x (P:=P) (w:=w) (base:=base) T D_x D_b D_a D_g D_h
 have G_f:=ok_f (P:=P) (w:=w) (base:=base) T D_f
 have G_n:=ok_n (P:=P) (w:=w) (base:=base) T D_n D_q
 refine Df.F.okP sc_k (fun as R h=>?_) (fun cdv A outer s H E C as R hK hr h=>?_)
 ·obtain ⟨_,_,_,rfl,_⟩:=h;rfl
 have hu:=hr.units
 obtain ⟨n,b,L,rfl,n0,n1,b0,b1,wl,l2,q⟩:=h
 obtain ⟨N,rfl⟩:∃N:Nat,n=(N:Int):=⟨n.toNat,by omega⟩
 refine ⟨_,(ss_ofV (v_cons (v_lift (fun W ok=>(s_H (q_fz (n_call hK D_a G_a (hr.mono (by first|decide|omega)) (a_cons (q_var (pv 1)) a_nil))))))
    (v_cons (v_lift (fun W ok=>(s_if (t_not (t_val (q_fz (n_call hK D_x G_x (hr.mono (by first|decide|omega)) (a_cons (q_var (pv 0)) (a_cons (q_var (pv 1)) (a_cons (q_var (pv 2)) a_nil))))))) (s_one s_J) s_nil)))
    (v_cons (v_lift (fun W ok=>(s_set (i:=3) sc_k.nd rfl (by simp only [L2.QL]) (cb_len hK rfl T.z_len (a_cons (q_var (pv 2)) a_nil)))))
    (v_cons (v_lift (fun W ok=>(s_set (i:=4) sc_k.nd rfl (by simp only [L2.QL]) (q_fz (n_call hK D_c G_c (hr.mono (by first|decide|omega)) (a_cons (q_var (pv 0)) (a_cons (q_var (pv 1)) a_nil)))))))
    (v_cons (v_set (i:=5) sc_k.nd rfl (by simp only [L2.QL]) (v_call hK D_m G_m (hr.mono (by first|decide|omega)) (fun W ok=>(a_cons (q_var (pv 4)) (a_cons (q_var (pv 0)) (a_cons (q_var (pv 3)) a_nil))))))
    (v_cons (v_lift (fun W ok=>(s_set (i:=6) sc_k.nd rfl (by simp only [L2.QL]) (q_c pe_int (fun _=>.int _)))))
    (v_cons (v_lift (fun W ok=>(s_set (i:=7) sc_k.nd rfl (by simp only [L2.QL]) (q_var (pv 0)))))
    (v_cons (v_for PassesOwn.never rfl (fun W ok=>(i_rev hK rfl T.z_reversed (a_cons (q_var (pv 4)) a_nil))) (fun W ok=>(g_name (i:=8) sc_k.nd rfl (by simp only [L2.QL]))) (v_cons (v_lift (fun W ok=>(s_I PassesOwn.never (PW.pt (w_and (t_gt (q_var (pv 3)) (q_c pe_int (fun _=>.int _))) (w_and1 (t_eq hK hu (q_ix hK (q_var (pv 2)) (q_sub (cb_len hK rfl T.z_len (a_cons (q_var (pv 2)) a_nil)) (q_var (pv 3))) (fun _ _=>rfl)) (q_var (pv 8)))))) (s_s (s_K (i:=7) sc_k.nd rfl (by simp only [L2.QL]) (q_var (pv 8)))
    (s_one (s_K (i:=3) sc_k.nd rfl (by simp only [L2.QL]) (q_c pe_int (fun _=>.int _))))))))
    (v_cons (v_aug (i:=6) ip_add sc_k.nd rfl (by simp only [L2.QL]) (v_call hK D_f G_f (hr.mono (by first|decide|omega)) (fun W ok=>(a_cons (q_var (pv 8)) (a_cons (q_var (pv 5)) (a_cons (q_var (pv 7)) (a_cons (q_var (pv 3)) a_nil)))))))
    (v_one (v_expr (v_call hK D_n G_n (hr.mono (by first|decide|omega)) (fun W ok=>(a_cons (q_var (pv 8)) (a_cons (q_var (pv 5)) (a_cons (q_var (pv 7)) (a_cons (q_var (pv 3)) a_nil)))))))))))
    (v_one (v_lift (fun W ok=>(s_ret (n_val (q_var (pv 6)))))))))))))))),?_⟩
 show vSeq _ _ _ _ _
 refine vseq_goK fun kk hkk=>?_
 simp only [R,S_a]
 refine ⟨b0,b1,hkk _ _ ?_⟩
 refine vseq_goK fun kk hkk=>?_
 simp only [R,S_x]
 refine ⟨L,rfl,by omega,by omega,b0,b1,?_⟩
 rw [wgI_way wl fun x hx=>by have:=mem_le_sum (fun z hz=>(wl.mem z hz).1) x hx;rw [wl.sum] at this;exact this,if_neg (by decide)]
 refine hkk _ _ ?_
 refine vseq_goK fun kk hkk=>?_
 simp only [R]
 refine hkk _ _ ?_
 rw [List.length_map]
 refine vseq_goK fun kk hkk=>?_
 simp only [R,S_c]
 refine ⟨by omega,by omega,b0,b1,hkk _ _ ?_⟩
 refine vseq_goK fun kk hkk=>?_
 simp only [R,S_m]
 have bd:=mto_bd (b:=b) (n:=(N:Int)) (by omega)
 refine ⟨M.mto b N,rfl,N,rfl,L.length,rfl,by omega,l2,fun y hy=>?_,M.mto_sorted b N,fun W' x ms hM hT=>hkk _ _ ?_⟩
 ·have:=bd y hy
  omega
 refine vseq_goK fun kk hkk=>?_
 simp only [R]
 refine hkk _ _ ?_
 refine vseq_goK fun kk hkk=>?_
 simp only [R]
 refine hkk _ _ ?_
 have srt:(M.mto b N).reverse.Pairwise (fun x y=>y<x):=List.pairwise_reverse.mpr (M.mto_sorted b N)
 have bd':∀y∈(M.mto b N).reverse,(0:Int)<y/\y<=N:=fun y hy=>bd y (List.mem_reverse.mp hy)
 have gb:∀i,i<(M.mto b N).length->((M.mto b N).map D.int).getD ((M.mto b N).length - 1 - i) .non=.int ((M.mto b N).reverse.getD i 0):=fun i hi=>getD_back hi
 have ln:(M.mto b N).reverse.length=(M.mto b N).length:=List.length_reverse
 generalize M.mto b (N:Int)=qs at hT srt bd' gb ln q
 generalize qs.reverse=ps at hT srt bd' gb ln q
 obtain ⟨I,hI⟩:∃I:Nat->Hp->PSt->Prop,I=(fun (i:Nat) W p=>∃(ms:List (List Int)) (pl:Int) (N' K':Nat) (w8:Option D),Mat W x ms/\M.Tab (ps.drop i) N' K' ms/\N'<=N/\K'<=L.length/\(N':Int)=N - (L.take (L.length - K')).sum/\pl+M.rk (ps.drop i) N' (L.drop (L.length - K'))=M.rk ps N L /\
  p=[some (.d (.int N)),some (.d (.int b)),some (.d (.lst (L.map D.int))),some (.d (.int K')),some (.d (.lst (qs.map D.int))),some (.d (.atom (.ref x))),some (.d (.int pl)),some (.d (.int N')),Option.map Sl.d w8]):=⟨_,rfl⟩
 refine vseq_goP (vfor_q (n:=(qs.map D.int).length) (item:=fun i=>(qs.map D.int).getD ((qs.map D.int).length - 1 - i) .non) (p1:=_) (fun Q h=>by simp only [Q];exact h) I (by rw [hI];exact ⟨ms,0,N,L.length,none,hM,hT,Nat.le_refl _,Nat.le_refl _,by simp,by simp,rfl⟩) ?_ ?_)
 ·intro i W p hi hp
  rw [hI] at hp
  obtain ⟨ms,pl,N',K',w8,hM,hT,hN',hk',hs',hw,rfl⟩:=hp
  rw [List.length_map] at hi ⊢
  rw [gb i hi]
  rw [<-ln] at hi
  have da:=drop_at hi
  have hm:ps.getD i 0∈ps:=by rw [List.getD_eq_getElem?_getD,List.getElem?_eq_getElem hi];exact List.getElem_mem hi
  obtain ⟨p0,p1⟩:=bd' _ hm
  have hps:∀y∈ps.drop (i+1),y<=ps.getD i 0:=fun y hy=>by
   have s2:=srt.drop (i:=i)
   rw [da,List.pairwise_cons] at s2
   have:=s2.1 y hy
   omega
  rw [da] at hT hw
  generalize ps.getD i 0=pt at p0 p1 hT hw hps
  simp only [R]
  obtain ⟨J,hJ⟩:∃J:PSt->Prop,J=(fun p=>∃(N' K':Nat),M.Tab (pt::ps.drop (i+1)) N' K' ms/\N'<=N/\K'<=L.length/\(N':Int)=N - (L.take (L.length - K')).sum/\pl+M.rk (pt::ps.drop (i+1)) N' (L.drop (L.length - K'))=M.rk ps N L /\
   p=[some (.d (.int N)),some (.d (.int b)),some (.d (.lst (L.map D.int))),some (.d (.int K')),some (.d (.lst (qs.map D.int))),some (.d (.atom (.ref x))),some (.d (.int pl)),some (.d (.int N')),some (.d (.int pt))]):=⟨_,rfl⟩
  refine vseq_goK fun kk hkk=>?_
  show qWhile _ _ _ _
  refine while_q J (fun p=>match p[3]? with|some (some (Sl.d (D.int r)))=>r.toNat|_=>0) (by rw [hJ];exact ⟨N',K',hT,hN',hk',hs',hw,rfl⟩) ?_
  intro p1 hp1
  rw [hJ] at hp1
  obtain ⟨N',K',hT,hN',hk',hs',hw,rfl⟩:=hp1
  have ex:(∀r,L.drop (L.length - K')≠pt::r)->kk W [some (.d (.int N)),some (.d (.int b)),some (.d (.lst (L.map D.int))),some (.d (.int K')),some (.d (.lst (qs.map D.int))),some (.d (.atom (.ref x))),some (.d (.int pl)),some (.d (.int N')),some (.d (.int pt))]:=fun hne=>by
   have er:M.rk (pt::ps.drop (i+1)) N' (L.drop (L.length - K'))=M.cf pt (ps.drop (i+1)) K' N'+M.rk (ps.drop (i+1)) N' (L.drop (L.length - K')):=by
    have ll:(L.drop (L.length - K')).length=K':=by rw [List.length_drop];omega
    cases hD:L.drop (L.length - K') with
    | nil=>
     rw [hD] at ll
     have:K'=0:=ll.symm
     have c0:M.cf pt (ps.drop (i+1)) K' N'=0:=by unfold M.cf;rw [if_pos (.inl this)]
     rw [M.rk_emp,c0,Int.zero_add]
    | cons y r=>
     have hy:y≠pt:=fun z=>hne r (by rw [hD,z])
     rw [hD] at ll
     rw [M.rk_no hy]
     have:r.length+1=K':=ll
     rw [this]
   refine hkk _ _ ?_
   refine vseq_goK fun kk hkk=>?_
   simp only [R,S_f]
   refine ⟨N',rfl,K',rfl,ps.drop (i+1),ms,hM,hT,p0,hkk _ _ ?_⟩
   simp only [R,S_n]
   refine ⟨N',rfl,K',rfl,ps.drop (i+1),ms,hM,hT,p0,by omega,by omega,by omega,hps,fun W' ms' hM' hT'=>?_⟩
   show I (i+1) _ _
   rw [hI]
   exact ⟨ms',pl+M.cf pt (ps.drop (i+1)) K' N',N',K',some _,hM',hT',hN',hk',hs',by rw [Int.add_assoc,<-er];exact hw,rfl⟩
  by_cases k0:0<K'
  ·have hlt:L.length - K'<L.length:=by omega
   have dd:L.drop (L.length - K')=L.getD (L.length - K') 0::L.drop (L.length - K'+1):=by rw [List.drop_eq_getElem_cons hlt,List.getD_eq_getElem?_getD,List.getElem?_eq_getElem hlt];rfl
   have ax:atI (L.map D.int) ((L.length:Int) - (K':Int))=some (.int (L.getD (L.length - K') 0)):=by
    rw [atDN (j:=L.length - K') (by omega) (by rw [List.length_map];omega),getD_ints hlt]
   have le1:=(wl.le (L.length - K') (by omega)).2 hlt
   have ts1:(L.take (L.length - K'+1)).sum=(L.take (L.length - K')).sum+L.getD (L.length - K') 0:=by
    rw [List.take_succ,List.getElem?_eq_getElem hlt,List.sum_append,List.getD_eq_getElem?_getD,List.getElem?_eq_getElem hlt];simp
   rw [dd] at hw
   have kc:(0:Int)<(K':Int):=by omega
   by_cases c:L.getD (L.length - K') 0=pt
   ·rw [c] at ax hw le1 ts1
    rw [M.rk_yes] at hw
    simp only [Q,ax,kc,List.length_map]
    have en:(((N':Int).toNat - pt.toNat:Nat):Int)=(N':Int) - pt:=by omega
    have e2:L.length - K'+1=L.length - (K' - 1):=by omega
    rw [e2] at hw ts1
    refine ⟨?_,by omega⟩
    rw [hJ]
    exact ⟨(N':Int).toNat - pt.toNat,K' - 1,hT.less (by omega) (by omega),by omega,by omega,by rw [en,ts1];omega,by rw [en];exact hw,by rw [en,show ((K' - 1:Nat):Int)=(K':Int) - 1 by omega]⟩
   ·simp only [Q,ax,kc,List.length_map]
    rw [if_neg c]
    exact ex fun r z=>c (by rw [dd] at z;exact (List.cons.inj z).1)
  ·have kz:K'=0:=by omega
   subst kz
   simp only [Q]
   exact ex fun r z=>by
    have:(L.drop (L.length - 0)).length=0:=by rw [List.length_drop];omega
    rw [z] at this;simp at this
 ·intro W p hp
  rw [hI] at hp
  obtain ⟨ms,pl,N',K',w8,hM,hT,hN',hk',hs',hw,rfl⟩:=hp
  rw [List.length_map,<-ln,List.drop_length,M.rk_nil,Int.add_zero] at hw
  rw [<-hw] at q
  simp only [Q]
  exact q
end
abbrev s_z:Stmt:=top 24
abbrev A_z (K:PySem.W.Frag) (mg:Str->Option Value):=DefAt K mg "all_ways" s_z ["number","base"]
theorem sc_z:FnScope ["number","base","counts","part","total"] ["number","base"] (defScope s_z):=⟨rfl,rfl,rfl,by decide +kernel,rfl,by decide +kernel,by decide +kernel⟩
section
variable {P:Program} {w:World} {K:PySem.W.Frag} {mg:Str->Option Value} {base:Heap}
def S_z:PSp:=fun as R=>∃n b:Int,as=[.d (.int n),.d (.int b)]/\0<=n/\n<=2000/\2<=b/\b<=36/\R (.rd (.int (M.cg false (M.mto b n).reverse 0 n))) as
theorem for_c {ti:TIQ} {g:TGQ} {tb:TSQ} {E:PEnds} {p:PSt} (h:ti p fun n item p1=>qFor (fun _ Q=>Q n item p1) g tb E p1):qFor ti g tb E p:=h
theorem ok_z (T:Txt mg) (Df:A_z K mg) (D_b:A_b K mg) (D_a:A_a K mg) (D_p:A_p K mg) (D_d:A_d K mg) (D_e:A_e K mg) (D_g:A_g K mg) (D_c:A_c K mg):FnOk P w K mg base CX0 5 Df.f Df.fd ["number","base"] (spOf K S_z):=by
 have G_a:=ok_a (P:=P) (w:=w) (base:=base) T D_a D_b
 have G_c:=ok_c (P:=P) (w:=w) (base:=base) T D_c D_p D_d D_e D_b D_a D_g
 refine Df.F.okP sc_z (fun as R h=>?_) (fun cdv A outer s H E C as R hK hr h=>?_)
 ·obtain ⟨_,_,rfl,_⟩:=h;rfl
 have hu:=hr.units
 obtain ⟨n,b,rfl,n0,n1,b0,b1,q⟩:=h
 have ez:∀m:Nat,(List.replicate m [D.int 0]).flatten=(List.replicate m (0:Int)).map D.int:=fun m=>rep_ints m 0
 obtain ⟨N,rfl⟩:∃N:Nat,n=(N:Int):=⟨n.toNat,by omega⟩
 refine ⟨_,(s_s (s_H (q_fz (n_call hK D_a G_a (hr.mono (by first|decide|omega)) (a_cons (q_var (pv 1)) a_nil))))
    (s_s (s_setN (i:=2) sc_z.nd rfl (by simp only [L2.QL]) (n_cat (q_fz (n_lst (a_cons (q_c pe_int (fun _=>.int _)) a_nil))) (q_fz (n_rep (q_fz (n_lst (a_cons (q_c pe_int (fun _=>.int _)) a_nil))) (q_var (pv 0))))))
    (s_s (s_for PassesOwn.never rfl (i_list hK (q_fz (n_call hK D_c G_c (hr.mono (by first|decide|omega)) (a_cons (q_var (pv 0)) (a_cons (q_var (pv 1)) a_nil))))) (g_name (i:=3) sc_z.nd rfl (by simp only [L2.QL])) (s_one (s_for PassesOwn.never rfl (i_range2 rfl T.z_range (a_cons (q_var (pv 3)) (a_cons (q_add (q_var (pv 0)) (q_c pe_int (fun _=>.int _))) a_nil))) (g_name (i:=4) sc_z.nd rfl (by simp only [L2.QL])) (s_one (s_augI (i:=2) ip_add (pv 2) (q_var (pv 4)) (q_ix hK (q_var (pv 2)) (q_sub (q_var (pv 4)) (q_var (pv 3))) (fun _ _=>rfl)))))))
    (s_one (s_ret (n_val (q_ix hK (q_var (pv 2)) (q_var (pv 0)) (fun _ _=>rfl)))))))),?_⟩
 refine seq_goK fun kk hkk=>?_
 simp only [R,S_a]
 refine ⟨b0,b1,hkk _ ?_⟩
 refine seq_goK fun kk hkk=>?_
 simp only [R]
 refine ⟨by omega,by omega,by omega,?_⟩
 rw [ez,Int.toNat_natCast,List.length_map,List.length_replicate]
 refine ⟨by omega,hkk _ ?_⟩
 have e1:D.int 1::(List.replicate N (0:Int)).map D.int=(([1]++List.replicate N 0:List Int)).map D.int:=rfl
 rw [e1]
 refine seq_goP (for_c ?_)
 simp only [R,S_c]
 refine ⟨by omega,by omega,b0,b1,?_⟩
 obtain ⟨ps,hps⟩:∃ps,ps=M.mto b (N:Int):=⟨_,rfl⟩
 have hbd:=mto_bd (b:=b) (n:=(N:Int)) (by omega)
 rw [<-hps] at hbd q ⊢
 obtain ⟨I,hI⟩:∃I:Nat->PSt->Prop,I=(fun (i:Nat) p=>∃(xs:List Int) (w3 w4:Option D),M.Cnt (ps.take i).reverse N xs/\p=[some (.d (.int N)),some (.d (.int b)),some (.own (xs.map D.int)),Option.map Sl.d w3,Option.map Sl.d w4]):=⟨_,rfl⟩
 refine for_q (n:=(ps.map D.int).length) (item:=fun i=>(ps.map D.int).getD i .non) (p1:=_) (fun Q h=>h) I (by rw [hI];exact ⟨_,none,none,M.Cnt.nil,rfl⟩) ?_ ?_
 ·intro i p hi hp
  rw [hI] at hp
  obtain ⟨xs,w3,w4,hc,rfl⟩:=hp
  rw [List.length_map] at hi
  rw [getD_ints hi]
  have hm:ps.getD i 0∈ps:=by rw [List.getD_eq_getElem?_getD,List.getElem?_eq_getElem hi];exact List.getElem_mem hi
  obtain ⟨p0,p1⟩:=hbd _ hm
  have tr:=take_rev hi
  generalize ps.getD i 0=x at p0 p1 tr
  obtain ⟨J,hJ⟩:∃J:Nat->PSt->Prop,J=(fun (k:Nat) p=>∃(xs:List Int) (w4:Option D),M.CntJ x (ps.take i).reverse N (x+(k:Int)) xs/\p=[some (.d (.int N)),some (.d (.int b)),some (.own (xs.map D.int)),some (.d (.int x)),Option.map Sl.d w4]):=⟨_,rfl⟩
  simp only [R]
  refine for_q (n:=((N:Int)+1 - x).toNat) (item:=fun k=>.int (x+(k:Int))) (p1:=_) (fun Q h=>by
   simp only [Q]
   exact ⟨by omega,by omega,by omega,by omega,h⟩) J (by rw [hJ];exact ⟨xs,w4,by have:=hc.go (p:=x);simpa using this,rfl⟩) ?_ ?_
  ·intro k p hk hp
   rw [hJ] at hp
   obtain ⟨xs,w4,hc,rfl⟩:=hp
   obtain ⟨c,ec⟩:∃c,c=x+(k:Int):=⟨_,rfl⟩
   rw [<-ec] at hc ⊢
   have hl:=hc.len
   obtain ⟨g1,g0⟩:=hc.read p0 (by omega) (by omega)
   have x1:(xs.map D.int)[c.toNat]? = some (.int (M.cg false (ps.take i).reverse 0 c)):=by rw [List.getElem?_map,g1];rfl
   have x0:atI (xs.map D.int) (c - x)=some (.int (M.cg false (x::(ps.take i).reverse) 0 (c - x))):=by
    rw [atDN (j:=(c - x).toNat) (by omega) (by rw [List.length_map];omega),List.getD_eq_getElem?_getD,List.getElem?_map,g0];rfl
   simp only [R,x1,x0]
   refine ⟨by omega,by rw [List.length_map];omega,?_⟩
   rw [hJ]
   have e2:x+((k+1:Nat):Int)=c+1:=by rw [ec];push_cast;omega
   have st:=hc.step p0 (by omega) (by omega)
   rw [<-e2] at st
   exact ⟨_,some (.int c),st,by rw [List.map_set];rfl⟩
  ·intro p hp
   rw [hJ] at hp
   obtain ⟨xs,w4,hc,rfl⟩:=hp
   show I (i+1) _
   rw [hI]
   exact ⟨xs,some _,w4,by rw [tr];exact hc.fin (by omega),rfl⟩
 ·intro p hp
  rw [hI] at hp
  obtain ⟨xs,w3,w4,hc,rfl⟩:=hp
  rw [List.length_map,List.take_length] at hc
  have g:=hc.val N (Nat.le_refl _)
  have hl:=hc.len
  have x0:atI (xs.map D.int) (N:Int)=some (.int (M.cg false ps.reverse 0 N)):=by
   rw [atDN (j:=N) rfl (by rw [List.length_map];omega),List.getD_eq_getElem?_getD,List.getElem?_map,g];rfl
  simp only [R,x0]
  exact q
end
abbrev s_j:Stmt:=top 29
abbrev A_j (K:PySem.W.Frag) (mg:Str->Option Value):=DefAt K mg "greatest_pair" s_j ["number","parts","known"]
theorem sc_j:FnScope ["number","parts","known","lesser","greater"] ["number","parts","known"] (defScope s_j):=⟨rfl,rfl,rfl,by decide +kernel,rfl,by decide +kernel,by decide +kernel⟩
abbrev s_l:Stmt:=top 30
abbrev A_l (K:PySem.W.Frag) (mg:Str->Option Value):=DefAt K mg "greatest_way" s_l ["number","many","parts","known"]
theorem sc_l:FnScope ["number","many","parts","known","part","others"] ["number","many","parts","known"] (defScope s_l):=⟨rfl,rfl,rfl,by decide +kernel,rfl,by decide +kernel,by decide +kernel⟩
abbrev s_F:Stmt:=top 31
abbrev A_F (K:PySem.W.Frag) (mg:Str->Option Value):=DefAt K mg "fewest" s_F ["number","base"]
theorem sc_F:FnScope ["number","base","parts","known","many","way"] ["number","base"] (defScope s_F):=⟨rfl,rfl,rfl,by decide +kernel,rfl,by decide +kernel,by decide +kernel⟩
section
variable {P:Program} {w:World} {K:PySem.W.Frag} {mg:Str->Option Value} {base:Heap}
def kn (xs:List Int):D:=.dic (xs.map Sum.inl) (xs.map fun _=>D.bl true)
theorem has_mto {b N x:Int} (hN:0<=N) (h1:1<=x) (h2:x<=N):hasK (Sum.inl x) ((M.mto b N).map Sum.inl)=M.mir b x:=by
 cases hm:M.mir b x with
 | true=>exact hasK_iff.mpr (List.mem_map.mpr ⟨x,(M.mem_mto hN).mpr ⟨h1,h2,hm⟩,rfl⟩)
 | false=>
  cases hk:hasK (Sum.inl x) ((M.mto b N).map Sum.inl) with
  | false=>rfl
  | true=>
   obtain ⟨y,h3,h4⟩:=List.mem_map.mp (hasK_iff.mp hk)
   cases h4
   have:=((M.mem_mto hN).mp h3).2.2
   rw [hm] at this;cases this
theorem mto_at {b N:Int} (hN:0<=N) {i:Nat} (hi:i<(M.mto b N).length):1<=(M.mto b N).getD i 0/\(M.mto b N).getD i 0<=N/\M.mir b ((M.mto b N).getD i 0)=true:=by
 refine (M.mem_mto hN).mp ?_
 rw [List.getD_eq_getElem?_getD,List.getElem?_eq_getElem hi];exact List.getElem_mem hi
theorem mto_ix {b N x:Int} (hN:0<=N) (h1:1<=x) (h2:x<=N) (h3:M.mir b x=true):∃j,j<(M.mto b N).length/\(M.mto b N).getD j 0=x:=by
 obtain ⟨j,hj,e⟩:=List.getElem_of_mem ((M.mem_mto hN).mpr ⟨h1,h2,h3⟩)
 exact ⟨j,hj,by rw [List.getD_eq_getElem?_getD,List.getElem?_eq_getElem hj];exact e⟩
theorem mto_lt {b N:Int} {i j:Nat} (h:i<j) (hj:j<(M.mto b N).length):(M.mto b N).getD i 0<(M.mto b N).getD j 0:=by
 have:=List.pairwise_iff_getElem.mp (M.mto_sorted b N) i j (by omega) hj h
 rw [List.getD_eq_getElem?_getD,List.getElem?_eq_getElem (show i<(M.mto b N).length by omega),List.getD_eq_getElem?_getD,List.getElem?_eq_getElem hj]
 exact this
theorem mto_len6 {b N:Int} (b0:2<=b) (b1:b<=36) (hN:0<=N) (h6:N<=10 ^ 6):(M.mto b N).length<80000:=by
 have h1:=M.mto_len b N
 have h2:=M.cnt_le6 b0 b1 hN h6
 omega
def S_j:PSp:=fun as R=>∃(n b N:Int),as=[.d (.int n),.d (.lst ((M.mto b N).map D.int)),.d (kn (M.mto b N))]/\0<=n/\n<=N/\N<=10 ^ 6/\2<=b/\b<=36/\(¬M.Sm b 2 n->R (.rd .non) as)/\∀L,M.Gt b 2 n L->R (.ro (L.map D.int)) as
theorem sm_two {b n:Int} (h:M.Sm b 2 n):∃q,1<=q/\M.mir b q=true/\2 * q<=n/\M.mir b (n - q)=true:=by
 obtain ⟨L,w⟩:=h.way
 obtain ⟨p,r,rfl⟩:=w.cons
 obtain ⟨w1,p1,pm,pa⟩:=w.head
 obtain ⟨q,r',rfl⟩:=w1.cons
 obtain ⟨w2,q1,qm,_⟩:=w1.head
 have:=w2.sum
 rw [List.length_eq_zero_iff.mp w2.len] at this
 have e:n - p - q=0:=by simpa using this.symm
 have hq:=pa q List.mem_cons_self
 exact ⟨q,q1,qm,by omega,by rw [show n - q=p by omega];exact pm⟩
theorem ok_j (T:Txt mg) (Df:A_j K mg):FnOk P w K mg base CX0 1 Df.f Df.fd ["number","parts","known"] (spOf K S_j):=by
 refine Df.F.okP sc_j (fun as R h=>?_) (fun cdv A outer s H E C as R hK hr h=>?_)
 ·obtain ⟨_,_,_,rfl,_⟩:=h;rfl
 have hu:=hr.units
 obtain ⟨n,b,N,rfl,n0,n1,N6,b0,b1,q1,q2⟩:=h
 have N0:0<=N:=by omega
 have lm:=mto_len6 b0 b1 N0 N6
 refine ⟨_,(s_s (s_for PassesOwn.never rfl (i_list hK (q_var (pv 1))) (g_name (i:=3) sc_j.nd rfl (by simp only [L2.QL])) (s_s (s_set (i:=4) sc_j.nd rfl (by simp only [L2.QL]) (q_sub (q_var (pv 0)) (q_var (pv 3))))
    (s_s (s_if (t_lt (q_var (pv 4)) (q_var (pv 3))) (s_one (s_ret (n_val (q_c pe_non (fun _=>.non))))) s_nil)
    (s_one (s_if (t_inDic hu (q_var (pv 4)) (q_var (pv 2))) (s_one (s_ret (n_lst (a_cons (q_var (pv 4)) (a_cons (q_var (pv 3)) a_nil))))) s_nil)))))
    (s_one (s_ret (n_val (q_c pe_non (fun _=>.non)))))),?_⟩
 obtain ⟨I,hI⟩:∃I:Nat->PSt->Prop,I=(fun i p=>∃w3 w4:Option D,(∀j,j<i->M.mir b (n - (M.mto b N).getD j 0)=false/\2 * (M.mto b N).getD j 0<=n)/\p=[some (.d (.int n)),some (.d (.lst ((M.mto b N).map D.int))),some (.d (kn (M.mto b N))),Option.map Sl.d w3,Option.map Sl.d w4]):=⟨_,rfl⟩
 refine seq_goP (for_q (n:=((M.mto b N).map D.int).length) (item:=fun i=>((M.mto b N).map D.int).getD i .non) (p1:=_) (fun Q h=>by simp only [Q];exact h) I (by rw [hI];exact ⟨none,none,fun j hj=>absurd hj (by omega),rfl⟩) ?_ ?_)
 ·intro i p hi hp
  rw [hI] at hp
  obtain ⟨w3,w4,h0,rfl⟩:=hp
  rw [List.length_map] at hi
  obtain ⟨x1,x2,x3⟩:=mto_at N0 hi
  rw [getD_ints hi]
  generalize hx:(M.mto b N).getD i 0=x at *
  have before:∀q,1<=q->M.mir b q=true->q<x->M.mir b (n - q)=false:=fun q a1 a2 a3=>by
   obtain ⟨j,hj,e⟩:=mto_ix N0 a1 (by omega) a2
   have hji:j<i:=by
    by_cases z:j<i
    ·exact z
    ·by_cases z2:j=i
     ·rw [z2,hx] at e;omega
     ·have:=mto_lt (b:=b) (N:=N) (show i<j by omega) hj
      rw [hx,e] at this
      omega
   have:=(h0 j hji).1
   rw [e] at this;exact this
  simp only [Q]
  refine ite2 (fun c=>?_) (fun c=>?_)
  ·refine q1 fun s=>?_
   obtain ⟨q,a1,a2,a3,a4⟩:=sm_two s
   have:=before q a1 a2 (by omega)
   rw [this] at a4;cases a4
  ·simp only [Q]
   refine ⟨_,_,rfl,?_⟩
   rw [has_mto N0 (by omega) (by omega)]
   refine ite2 (fun c2=>?_) (fun c2=>?_)
   ·refine q2 [n - x,x] (.cons (by omega) c2 (.cons x1 x3 (by rw [show n - (n - x) - x=0 by omega];exact .nil) fun q a1 a2 s=>?_) fun q a1 a2 s=>?_)
    ·have:=s.none;omega
    ·obtain ⟨r,c1,c2',c3,c4⟩:=s.cut
     have e:=c4.none
     have:=before (n - q) (by omega) (by rw [show n - q=r by omega];exact c2') (by omega)
     rw [show n - (n - q)=q by omega,a2] at this;cases this
   ·rw [hI]
    refine ⟨some (.int x),some (.int (n - x)),fun j hj=>?_,rfl⟩
    by_cases z:j=i
    ·subst z
     rw [hx]
     exact ⟨by simpa using c2,by omega⟩
    ·exact h0 j (by omega)
 ·intro p hp
  rw [hI] at hp
  obtain ⟨w3,w4,h0,rfl⟩:=hp
  simp only [Q]
  refine q1 fun s=>?_
  obtain ⟨q,a1,a2,a3,a4⟩:=sm_two s
  obtain ⟨j,hj,e⟩:=mto_ix N0 a1 (by omega) a2
  have:=(h0 j (by rw [List.length_map];exact hj)).1
  rw [e,a4] at this;cases this
def S_gw (M0:Nat):PSp:=fun as R=>∃(n b N:Int) (m:Nat),as=[.d (.int n),.d (.int ((m:Nat):Int)),.d (.lst ((M.mto b N).map D.int)),.d (kn (M.mto b N))]/\0<=n/\n<=N/\N<=10 ^ 6/\2<=b/\b<=36/\2<=m/\m<=M0/\m<=1000/\(¬M.Sm b m n->R (.rd .non) as)/\∀L,M.Gt b m n L->R (.ro (L.map D.int)) as
def S_l:PSp:=S_gw 20
theorem gt_len {b n:Int} {m:Nat} {L:List Int} (h:M.Gt b m n L):L.length=m:=h.way.len
theorem ok_gw (T:Txt mg) (Df:A_l K mg) (D_j:A_j K mg):∀M0:Nat,FnOk P w K mg base CX0 (2+M0) Df.f Df.fd ["number","many","parts","known"] (spOf K (S_gw M0)):=by
 intro M0
 have G_j:=ok_j (P:=P) (w:=w) (base:=base) T D_j
 induction M0 with
 | zero=>
  refine FnOk.imp (sp:=spOf K (S_gw 0)) (Df.F.okP sc_l (fun as R h=>?_) (fun cdv A outer s H E C as R hK hr h=>?_)) (fun _ _ _ _ h=>h)
  ·obtain ⟨_,_,_,_,rfl,_⟩:=h;rfl
  ·obtain ⟨n,b,N,m,rfl,_,_,_,_,_,h1,h2,_,_⟩:=h;omega
 | succ M0 ih=>
  have G_l:=ih
  refine Df.F.okP (k:=2+M0) sc_l (fun as R h=>?_) (fun cdv A outer s H E C as R hK hr h=>?_)
  ·obtain ⟨_,_,_,_,rfl,_⟩:=h;rfl
  have hu:=hr.units
  obtain ⟨n,b,N,m,rfl,n0,n1,N6,b0,b1,m2,m3,m4,q1,q2⟩:=h
  have N0:0<=N:=by omega
  have lm:=mto_len6 b0 b1 N0 N6
  refine ⟨_,(s_s (s_if (t_eq hK hu (q_var (pv 1)) (q_c pe_int (fun _=>.int _))) (s_one (s_ret (n_call hK D_j G_j (hr.mono (by first|decide|omega)) (a_cons (q_var (pv 0)) (a_cons (q_var (pv 2)) (a_cons (q_var (pv 3)) a_nil)))))) s_nil)
    (s_s (s_for PassesOwn.never rfl (i_rev hK rfl T.z_reversed (a_cons (q_var (pv 2)) a_nil)) (g_name (i:=4) sc_l.nd rfl (by simp only [L2.QL])) (s_s (s_if (t_lt (q_mul (q_var (pv 4)) (q_var (pv 1))) (q_var (pv 0))) (s_one (s_ret (n_val (q_c pe_non (fun _=>.non))))) s_nil)
    (s_one (s_if (t_lt (q_var (pv 4)) (q_var (pv 0))) (s_s (s_set (i:=5) sc_l.nd rfl (by simp only [L2.QL]) (q_fz (n_call hK Df G_l (hr.mono (by first|decide|omega)) (a_cons (q_sub (q_var (pv 0)) (q_var (pv 4))) (a_cons (q_sub (q_var (pv 1)) (q_c pe_int (fun _=>.int _))) (a_cons (q_var (pv 2)) (a_cons (q_var (pv 3)) a_nil)))))))
    (s_one (s_if (t_isnotN (q_var (pv 5))) (s_one (s_ret (n_cat (q_fz (n_lst (a_cons (q_var (pv 4)) a_nil))) (q_var (pv 5))))) s_nil))) s_nil))))
    (s_one (s_ret (n_val (q_c pe_non (fun _=>.non))))))),?_⟩
  refine seq_goK fun kk hkk=>?_
  simp only [R]
  refine ite2 (fun c=>?_) (fun c=>hkk _ ?_)
  ·have em:m=2:=by omega
   subst em
   simp only [R,S_j]
   exact ⟨b,N,rfl,rfl,n0,n1,N6,b0,b1,q1,q2⟩
  obtain ⟨m,rfl⟩:∃k,m=k+1:=⟨m - 1,by omega⟩
  obtain ⟨I,hI⟩:∃I:Nat->PSt->Prop,I=(fun i p=>∃w4 w5:Option D,(∀q,(i<(M.mto b N).length->(M.mto b N).getD ((M.mto b N).length - 1 - i) 0<q)->1<=q->q<=n->M.mir b q=true->¬M.Sm b m (n - q))/\p=[some (.d (.int n)),some (.d (.int ((m+1:Nat):Int))),some (.d (.lst ((M.mto b N).map D.int))),some (.d (kn (M.mto b N))),Option.map Sl.d w4,Option.map Sl.d w5]):=⟨_,rfl⟩
  refine seq_goP (for_q (n:=((M.mto b N).map D.int).length) (item:=fun i=>((M.mto b N).map D.int).getD (((M.mto b N).map D.int).length - 1 - i) .non) (p1:=_) (fun Q h=>by simp only [Q];exact h) I (by
   rw [hI]
   refine ⟨none,none,fun q hq a1 a2 a3=>?_,rfl⟩
   exfalso
   obtain ⟨j,hj,e⟩:=mto_ix N0 a1 (by omega) a3
   have h1:=hq (by omega)
   by_cases z:j=(M.mto b N).length - 1
   ·subst z
    rw [show (M.mto b N).length - 1 - 0=(M.mto b N).length - 1 by omega,e] at h1
    omega
   ·have:=mto_lt (b:=b) (N:=N) (show j<(M.mto b N).length - 1 by omega) (by omega)
    rw [e] at this
    rw [show (M.mto b N).length - 1 - 0=(M.mto b N).length - 1 by omega] at h1
    omega) ?_ ?_)
  ·intro i p hi hp
   rw [hI] at hp
   obtain ⟨w4,w5,h0,rfl⟩:=hp
   rw [List.length_map] at hi
   have hix:(M.mto b N).length - 1 - i<(M.mto b N).length:=by omega
   obtain ⟨x1,x2,x3⟩:=mto_at N0 hix
   rw [List.length_map,getD_ints hix]
   have step:∀q,(i+1<(M.mto b N).length->(M.mto b N).getD ((M.mto b N).length - 1 - (i+1)) 0<q)->1<=q->M.mir b q=true->q<=n->(M.mto b N).getD ((M.mto b N).length - 1 - i) 0<=q:=fun q hq a1 a2 a3=>by
    obtain ⟨j,hj,e⟩:=mto_ix N0 a1 (by omega) a2
    by_cases z:(M.mto b N).length - 1 - i<=j
    ·by_cases z2:(M.mto b N).length - 1 - i=j
     ·rw [z2,e];exact Int.le_refl _
     ·have:=mto_lt (b:=b) (N:=N) (show (M.mto b N).length - 1 - i<j by omega) hj
      rw [e] at this;omega
    ·exfalso
     have h1:=hq (by omega)
     by_cases z2:j=(M.mto b N).length - 1 - (i+1)
     ·rw [<-z2,e] at h1;omega
     ·have:=mto_lt (b:=b) (N:=N) (show j<(M.mto b N).length - 1 - (i+1) by omega) (by omega)
      rw [e] at this;omega
   generalize hx:(M.mto b N).getD ((M.mto b N).length - 1 - i) 0=x at *
   have above:∀q,x<q->q<=n->M.mir b q=true->¬M.Sm b m (n - q):=fun q a1 a2 a3=>h0 q (fun _=>a1) (by omega) a2 a3
   simp only [R]
   refine seq_goK fun kk hkk=>?_
   simp only [R]
   refine ⟨Or.inl ⟨by omega,by omega⟩,?_⟩
   refine ite2 (fun c3=>?_) (fun c3=>hkk _ ?_)
   ·exact q1 (M.no_way c3 above)
   simp only [R]
   refine ite2 (fun c4=>?_) (fun c4=>?_)
   ·refine seq_goK fun kk hkk=>?_
    simp only [R,S_gw]
    refine ⟨b,N,m,by omega,rfl,rfl,by omega,by omega,N6,b0,b1,by omega,by omega,by omega,fun hn=>hkk _ ?_,fun L gL=>hkk _ ?_⟩
    ·simp only [Q]
     rw [hI]
     refine ⟨some (.int x),some .non,fun q hq a1 a2 a3=>?_,rfl⟩
     have h1:=step q hq a1 a3 a2
     by_cases z:q=x
     ·subst z;exact hn
     ·exact above q (by omega) a2 a3
    ·simp only [Q]
     refine ⟨by rw [List.length_map,gt_len gL];omega,?_⟩
     exact q2 (x::L) (.cons x1 x3 gL fun q a1 a2 s=>above q a1 (by have:=s.nn;omega) a2 s)
   ·simp only [Q]
    rw [hI]
    refine ⟨some (.int x),w5,fun q hq a1 a2 a3=>?_,rfl⟩
    have h1:=step q hq a1 a3 a2
    by_cases z:q=x
    ·subst z
     intro s
     have h2:n - q=0:=by have:=s.nn;omega
     have:=M.sm_none0 s (by omega)
     omega
    ·exact above q (by omega) a2 a3
  ·intro p hp
   rw [hI] at hp
   obtain ⟨w4,w5,h0,rfl⟩:=hp
   rw [List.length_map] at h0
   simp only [Q]
   refine q1 fun s=>?_
   obtain ⟨p,a1,a2,a3,a4⟩:=s.cut
   exact h0 p (fun z=>absurd z (by omega)) a1 a3 a2 a4
theorem ok_l (T:Txt mg) (Df:A_l K mg) (D_j:A_j K mg):FnOk P w K mg base CX0 22 Df.f Df.fd ["number","many","parts","known"] (spOf K S_l):=ok_gw T Df D_j 20
def S_F:PSp:=fun as R=>∃n b:Int,as=[.d (.int n),.d (.int b)]/\0<=n/\n<=10 ^ 6/\2<=b/\b<=36/\∀L,M.Gt b (M.nd b n) n L->R (.ro (L.map D.int)) as
theorem gt_zero {b:Int} (b0:2<=b):M.Gt b (M.nd b 0) 0 []:=by rw [M.nd_zero b0];exact .nil
theorem gt_one {b n:Int} (b0:2<=b) (n0:1<=n) (h:M.mir b n=true):M.Gt b (M.nd b n) n [n]:=by
 have h1:=(M.nd_one b0 n0).mpr h
 have h2:=M.nd_pos b0 n0
 rw [show M.nd b n=0+1 by omega]
 refine .cons n0 h (by rw [Int.sub_self];exact .nil) fun q a1 a2 s=>?_
 have:=s.none
 omega
theorem ok_F (T:Txt mg) (Df:A_F K mg) (D_b:A_b K mg) (D_a:A_a K mg) (D_g:A_g K mg) (D_h:A_h K mg) (D_p:A_p K mg) (D_d:A_d K mg) (D_e:A_e K mg) (D_c:A_c K mg) (D_j:A_j K mg) (D_l:A_l K mg):FnOk P w K mg base CX0 23 Df.f Df.fd ["number","base"] (spOf K S_F):=by
 have G_a:=ok_a (P:=P) (w:=w) (base:=base) T D_a D_b
 have G_h:=ok_h (P:=P) (w:=w) (base:=base) T D_h D_b D_a D_g
 have G_c:=ok_c (P:=P) (w:=w) (base:=base) T D_c D_p D_d D_e D_b D_a D_g
 have G_l:=ok_l (P:=P) (w:=w) (base:=base) T D_l D_j
 refine Df.F.okP sc_F (fun as R h=>?_) (fun cdv A outer s H E C as R hK hr h=>?_)
 ·obtain ⟨_,_,rfl,_⟩:=h;rfl
 have hu:=hr.units
 obtain ⟨n,b,rfl,n0,n1,b0,b1,q⟩:=h
 have nB:n<M.Big:=M.big_40 (Int.le_trans n1 (by decide))
 have lm:=mto_len6 b0 b1 n0 n1
 have nd20:M.nd b n<=20:=M.nd_log b0 20 n0 (by omega)
 refine ⟨_,(s_s (s_H (q_fz (n_call hK D_a G_a (hr.mono (by first|decide|omega)) (a_cons (q_var (pv 1)) a_nil))))
    (s_s (s_if (t_eq hK hu (q_var (pv 0)) (q_c pe_int (fun _=>.int _))) (s_one (s_ret (n_lst a_nil))) s_nil)
    (s_s (s_if (t_val (q_fz (n_call hK D_h G_h (hr.mono (by first|decide|omega)) (a_cons (q_var (pv 0)) (a_cons (q_var (pv 1)) a_nil))))) (s_one (s_ret (n_lst (a_cons (q_var (pv 0)) a_nil)))) s_nil)
    (s_s (s_set (i:=2) sc_F.nd rfl (by simp only [L2.QL]) (q_fz (n_call hK D_c G_c (hr.mono (by first|decide|omega)) (a_cons (q_var (pv 0)) (a_cons (q_var (pv 1)) a_nil)))))
    (s_s (s_setDC (i:=3) sc_F.nd rfl (by simp only [L2.QL]) (N:=["part","number","base","parts","known","many","way"]) (k:=1) (CompScope.of (show CompSc (defScope s_F) ["number","base","parts","known","many","way"] _ ["part","number","base","parts","known","many","way"] 1 from ⟨by rfl,by decide +kernel,by decide +kernel,by rfl,by decide +kernel,by decide +kernel,by decide +kernel,by decide +kernel⟩)) rfl (i_list hK (q_var (pv 2))) (fun Z s H fp=>(gk_name (i:=0) (by decide) (show List.Nodup (["part","number","base","parts","known","many","way"]:List Str) by decide +kernel) rfl (Or.inl rfl) (Or.inr rfl))) (fun Z s H fp=>ts_nil) (fun Z s H fp=>(q_var (pv 0))) (fun Z s H fp=>(q_c pe_bl (fun _=>.bl _))))
    (s_s (s_set (i:=4) sc_F.nd rfl (by simp only [L2.QL]) (q_c pe_int (fun _=>.int _)))
    (s_s (s_setN (i:=5) sc_F.nd rfl (by simp only [L2.QL]) (n_call hK D_l G_l (hr.mono (by first|decide|omega)) (a_cons (q_var (pv 0)) (a_cons (q_var (pv 4)) (a_cons (q_var (pv 2)) (a_cons (q_var (pv 3)) a_nil))))))
    (s_s (s_I PassesOwn.never (t_isN (q_var (pv 5))) (s_s (s_M (i:=4) sc_F.nd rfl (by simp only [L2.QL]) (q_c pe_int (fun _=>.int _)))
    (s_one (s_setN (i:=5) sc_F.nd rfl (by simp only [L2.QL]) (n_call hK D_l G_l (hr.mono (by first|decide|omega)) (a_cons (q_var (pv 0)) (a_cons (q_var (pv 4)) (a_cons (q_var (pv 2)) (a_cons (q_var (pv 3)) a_nil)))))))))
    (s_one (s_retO (i:=5) (pv 5))))))))))),?_⟩
 refine seq_goK fun kk hkk=>?_
 simp only [R,S_a]
 refine ⟨b0,b1,hkk _ ?_⟩
 refine seq_goK fun kk hkk=>?_
 simp only [R]
 refine ite2 (fun c=>?_) (fun c=>hkk _ ?_)
 ·subst c
  exact q [] (gt_zero b0)
 refine seq_goK fun kk hkk=>?_
 simp only [R,S_h]
 refine ⟨n0,nB,b0,b1,ite2 (fun c=>?_) (fun c2=>hkk _ ?_)⟩
 ·exact q [n] (gt_one b0 (by omega) c)
 have nd2:2<=M.nd b n:=by
  have h1:=M.nd_one b0 (show 1<=n by omega)
  by_cases z:M.nd b n<=1
  ·exact absurd (h1.mp z) c2
  ·omega
 obtain ⟨sn,smin⟩:=M.nd_spec b0 n0
 refine seq_goK fun kk hkk=>?_
 simp only [R,S_c]
 refine ⟨n0,n1,b0,b1,hkk _ ?_⟩
 refine seq_goK fun kk hkk=>?_
 unfold qSetDC
 simp only [R]
 obtain ⟨I,hI⟩:∃I:Nat->List Key->List D->PSt->Prop,I=(fun j ks ds p=>ks=((M.mto b n).take j).map Sum.inl/\ds=((M.mto b n).take j).map (fun _=>D.bl true)/\∃o:Option D,p=[Option.map Sl.d o,some (.d (.int n)),some (.d (.int b)),some (.d (.lst ((M.mto b n).map D.int))),none,none,none]):=⟨_,rfl⟩
 refine ⟨I,by rw [hI];exact ⟨rfl,rfl,none,rfl⟩,by rw [List.length_map];omega,fun j ks ds p hj hp=>?_,fun ks ds p hp=>?_⟩
 ·rw [hI] at hp
  obtain ⟨rfl,rfl,o,rfl⟩:=hp
  rw [List.length_map] at hj
  rw [getD_ints hj]
  have tk:(M.mto b n).take (j+1)=(M.mto b n).take j++[(M.mto b n).getD j 0]:=by
   rw [List.take_succ,List.getD_eq_getElem?_getD,List.getElem?_eq_getElem hj];rfl
  refine ⟨by rw [List.length_map,List.length_take];omega,?_⟩
  simp only [Q]
  refine ⟨fun z=>?_,?_⟩
  ·obtain ⟨y,h1,h2⟩:=List.mem_map.mp z
   cases h2
   obtain ⟨i,hi,e⟩:=List.getElem_of_mem h1
   rw [List.length_take] at hi
   rw [List.getElem_take] at e
   have:=mto_lt (b:=b) (N:=n) (show i<j by omega) hj
   rw [List.getD_eq_getElem?_getD,List.getElem?_eq_getElem (show i<(M.mto b n).length by omega)] at this
   have e2:(M.mto b n)[i]=(M.mto b n).getD j 0:=e
   simp only [Option.getD_some] at this
   omega
  ·rw [hI]
   exact ⟨by rw [tk,List.map_append];rfl,by rw [tk,List.map_append];rfl,some _,rfl⟩
 rw [hI] at hp
 obtain ⟨rfl,rfl,o,rfl⟩:=hp
 have ek:D.dic (((M.mto b n).take ((M.mto b n).map D.int).length).map Sum.inl) (((M.mto b n).take ((M.mto b n).map D.int).length).map (fun _=>D.bl true))=kn (M.mto b n):=by
  rw [List.length_map,List.take_of_length_le (Nat.le_refl _)];rfl
 rw [ek]
 refine ⟨rfl,hkk _ ?_⟩
 refine seq_goK fun kk hkk=>?_
 simp only [R]
 refine hkk _ ?_
 refine seq_goK fun kk hkk=>?_
 simp only [R,S_l,S_gw]
 have small:∀j,j<2->¬M.Sm b j n:=fun j hj=>smin j (by omega)
 have go:∀(m:Nat) (v:Option Sl),(∀j,j<m->¬M.Sm b j n)->2<=m->m<=M.nd b n->((v=some (.d .non)/\¬M.Sm b m n)\/∃L:List Int,v=some (.own (L.map D.int))/\M.Gt b m n L)->kk [some (.d (.int n)),some (.d (.int b)),some (.d (.lst ((M.mto b n).map D.int))),some (.d (kn (M.mto b n))),some (.d (.int ((m:Nat):Int))),v]:=fun m v h1 h2 h3 h4=>by
  refine hkk _ ?_
  obtain ⟨J,hJ⟩:∃J:PSt->Prop,J=(fun p=>∃(m:Nat) (v:Option Sl),(∀j,j<m->¬M.Sm b j n)/\2<=m/\m<=M.nd b n/\((v=some (.d .non)/\¬M.Sm b m n)\/∃L:List Int,v=some (.own (L.map D.int))/\M.Gt b m n L)/\p=[some (.d (.int n)),some (.d (.int b)),some (.d (.lst ((M.mto b n).map D.int))),some (.d (kn (M.mto b n))),some (.d (.int ((m:Nat):Int))),v]):=⟨_,rfl⟩
  refine seq_goP (while_q J (fun p=>match p[4]? with|some (some (Sl.d (D.int r)))=>30 - r.toNat|_=>0) (by rw [hJ];exact ⟨m,v,h1,h2,h3,h4,rfl⟩) ?_)
  intro p hp
  rw [hJ] at hp
  obtain ⟨m,v,h1,h2,h3,h4,rfl⟩:=hp
  rcases h4 with ⟨rfl,h4⟩|⟨L,rfl,h4⟩
  ·simp only [Q,S_l,S_gw]
   have m1:m+1<=M.nd b n:=by
    by_cases z:m=M.nd b n
    ·rw [z] at h4;exact absurd sn h4
    ·omega
   have nx:∀j,j<m+1->¬M.Sm b j n:=fun j hj=>by
    by_cases z:j=m
    ·rw [z];exact h4
    ·exact h1 j (by omega)
   refine ⟨b,n,m+1,by omega,rfl,rfl,n0,Int.le_refl _,n1,b0,b1,by omega,by omega,by omega,fun hn=>⟨?_,by omega⟩,fun L gL=>⟨?_,by omega⟩⟩
   ·rw [hJ]
    exact ⟨m+1,_,nx,by omega,m1,.inl ⟨rfl,hn⟩,rfl⟩
   ·rw [hJ]
    exact ⟨m+1,_,nx,by omega,m1,.inr ⟨L,rfl,gL⟩,rfl⟩
  ·simp only [Q]
   have em:m=M.nd b n:=by
    by_cases z:m=M.nd b n
    ·exact z
    ·exact absurd h4.way.sm (smin m (by omega))
   subst em
   exact q L h4
 refine ⟨b,n,2,rfl,rfl,rfl,n0,Int.le_refl _,n1,b0,b1,by omega,by omega,by omega,fun hn=>?_,fun L gL=>?_⟩
 ·exact go 2 _ small (Nat.le_refl _) nd2 (.inl ⟨rfl,hn⟩)
 ·exact go 2 _ small (Nat.le_refl _) nd2 (.inr ⟨L,rfl,gL⟩)
end
abbrev s_C:Stmt:=top 33
abbrev A_C (K:PySem.W.Frag) (mg:Str->Option Value):=DefAt K mg "needs" s_C ["number","many","parts","told"]
theorem sc_C:FnScope ["number","many","parts","told","part"] ["number","many","parts","told"] (defScope s_C):=⟨rfl,rfl,rfl,by decide +kernel,rfl,by decide +kernel,by decide +kernel⟩
abbrev s_o:Stmt:=top 34
abbrev A_o (K:PySem.W.Frag) (mg:Str->Option Value):=DefAt K mg "table" s_o ["bound","base"]
theorem sc_o:FnScope ["bound","base","parts","told","part","many","left","number"] ["bound","base"] (defScope s_o):=⟨rfl,rfl,rfl,by decide +kernel,rfl,by decide +kernel,by decide +kernel⟩
section
variable {P:Program} {w:World} {K:PySem.W.Frag} {mg:Str->Option Value} {base:Heap}
def mapr (N:Nat) (f:Nat->D):List D:=(List.range (N+1)).map f
theorem mapr_len {N:Nat} {f:Nat->D}:(mapr N f).length=N+1:=by unfold mapr;rw [List.length_map,List.length_range]
theorem mapr_at {N:Nat} {f:Nat->D} {i:Nat} (h:i<=N):(mapr N f).getD i .non=f i:=by
 unfold mapr
 rw [List.getD_eq_getElem?_getD,List.getElem?_map,List.getElem?_range (by omega)];rfl
theorem mapr_set {N:Nat} {f:Nat->D} {i:Nat} {x:D}:(mapr N f).set i x=mapr N (fun j=>if j=i then x else f j):=by
 unfold mapr
 apply List.ext_getElem?
 intro j
 by_cases hj:j<N+1
 ·rw [List.getElem?_set,List.getElem?_map,List.getElem?_map,List.getElem?_range hj]
  by_cases e:i=j
  ·subst e;simp [hj]
  ·have e':¬j=i:=fun z=>e z.symm
   simp [e,e']
 ·rw [List.getElem?_eq_none (by simp;omega),List.getElem?_eq_none (by simp;omega)]
theorem mapr_ext {N:Nat} {f g:Nat->D} (h:∀i,i<=N->f i=g i):mapr N f=mapr N g:=by
 unfold mapr
 refine List.map_congr_left fun i hi=>h i ?_
 rw [List.mem_range] at hi
 omega
theorem mapr_start (N:Nat):[D.int 0]++(List.replicate N [D.non]).flatten=mapr N (fun i=>if i=0 then .int 0 else .non):=by
 have e:(List.replicate N [D.non]).flatten=List.replicate N D.non:=by
  induction N with
  | zero=>rfl
  | succ n ih=>rw [List.replicate_succ,List.flatten_cons,ih,List.replicate_succ];rfl
 rw [e]
 unfold mapr
 rw [List.range_succ_eq_map,List.map_cons,List.map_map,List.cons_append,List.nil_append]
 congr 1
 symm
 rw [List.eq_replicate_iff]
 refine ⟨by rw [List.length_map,List.length_range],fun x hx=>?_⟩
 obtain ⟨i,_,rfl⟩:=List.mem_map.mp hx
 rfl
theorem ix_in {N:Nat} {x:Int} (h0:0<=x) (h1:x<=(N:Int)):ixN (N+1) x=some x.toNat:=by
 unfold ixN
 rw [if_pos h0,if_pos (by omega)]
def Ent (d:D):Prop:=d=.non\/∃k:Int,d=.int k
theorem Ent.dok {d:D} (h:Ent d):DOk d:=by
 rcases h with rfl|⟨k,rfl⟩
 ·exact ⟨by simp only [L2.plain],by simp only [toP,PyData.canLay0],by simp only [toP,PyData.depth];decide⟩
 ·exact dok_int k
theorem Ent.eqv {d:D} (h:Ent d) (m:Int):deqv d (.int m)=true ↔ d=.int m:=by
 rcases h with rfl|⟨k,rfl⟩
 ·unfold deqv
  simp [toP,PyData.eqv]
 ·rw [deqv_int];simp
def S_C:PSp:=fun as R=>∃(n m:Int) (xs:List Int) (N:Nat) (f:Nat->D),as=[.d (.int n),.d (.int m),.d (.lst (xs.map D.int)),.bor (mapr N f)]/\0<=n/\n<=(N:Int)/\N<=90000/\xs.Pairwise (·<·)/\(∀x∈xs,1<=x)/\xs.length<=90000/\(∀i,i<=N->Ent (f i)) /\
 ∀r:Bool,(r=true ↔ ∃x∈xs,x<=n/\f (n - x).toNat=.int (m - 1))->R (.rd (.bl r)) as
theorem ok_C (T:Txt mg) (Df:A_C K mg):FnOk P w K mg base CX0 1 Df.f Df.fd ["number","many","parts","told"] (spOf K S_C):=by
 refine Df.F.okP sc_C (fun as R h=>?_) (fun cdv A outer s H E C as R hK hr h=>?_)
 ·obtain ⟨_,_,_,_,_,rfl,_⟩:=h;rfl
 have hu:=hr.units
 obtain ⟨n,m,xs,N,f,rfl,n0,n1,N1,so,x1,lx,en,q⟩:=h
 have st:∀i,i<xs.length->xs.getD i 0∈xs:=fun i hi=>by rw [List.getD_eq_getElem?_getD,List.getElem?_eq_getElem hi];exact List.getElem_mem hi
 refine ⟨_,(s_s (s_for PassesOwn.never rfl (i_list hK (q_var (pv 2))) (g_name (i:=4) sc_C.nd rfl (by simp only [L2.QL])) (s_s (s_if (t_gt (q_var (pv 4)) (q_var (pv 0))) (s_one (s_ret (n_val (q_c pe_bl (fun _=>.bl _))))) s_nil)
    (s_one (s_if (t_eqD hK hu (q_ix hK (q_var (pv 3)) (q_sub (q_var (pv 0)) (q_var (pv 4))) (fun _ _=>rfl)) (q_sub (q_var (pv 1)) (q_c pe_int (fun _=>.int _)))) (s_one (s_ret (n_val (q_c pe_bl (fun _=>.bl _))))) s_nil))))
    (s_one (s_ret (n_val (q_c pe_bl (fun _=>.bl _)))))),?_⟩
 refine seq_goP (for_i ?_)
 simp only [R,List.length_map]
 obtain ⟨I,hI⟩:∃I:Nat->PSt->Prop,I=(fun i p=>∃w4:Option D,(∀j,j<i->¬(xs.getD j 0<=n/\f (n - xs.getD j 0).toNat=.int (m - 1)))/\p=[some (.d (.int n)),some (.d (.int m)),some (.d (.lst (xs.map D.int))),some (.bor (mapr N f)),Option.map Sl.d w4]):=⟨_,rfl⟩
 refine ⟨I,by rw [hI];exact ⟨none,fun j hj=>absurd hj (by omega),rfl⟩,?_,?_⟩
 ·intro i p hi hp
  rw [hI] at hp
  obtain ⟨w4,h0,rfl⟩:=hp
  have xm:=x1 _ (st i hi)
  rw [getD_ints hi]
  simp only [R]
  by_cases c:n<xs.getD i 0
  ·refine seq_goP ?_
   simp only [R,c]
   refine q false ⟨fun z=>absurd z Bool.false_ne_true,fun ⟨x,hx,h1,h2⟩=>?_⟩
   obtain ⟨j,hj,e⟩:=List.getElem_of_mem hx
   have ej:xs.getD j 0=x:=by rw [List.getD_eq_getElem?_getD,List.getElem?_eq_getElem hj];exact e
   by_cases z:j<i
   ·exact absurd ⟨by rw [ej];exact h1,by rw [ej];exact h2⟩ (h0 j z)
   ·have le:xs.getD i 0<=xs.getD j 0:=by
     by_cases z2:j=i
     ·rw [z2];exact Int.le_refl _
     ·have:=List.pairwise_iff_getElem.mp so i j hi hj (by omega)
      rw [List.getD_eq_getElem?_getD,List.getElem?_eq_getElem hi,List.getD_eq_getElem?_getD,List.getElem?_eq_getElem hj]
      exact Int.le_of_lt this
    omega
  ·refine seq_goP ?_
   simp only [R,c]
   have at1:atI (mapr N f) (n - xs.getD i 0)=some (f (n - xs.getD i 0).toNat):=by
    rw [atD (by omega) (by rw [mapr_len];omega),mapr_at (by omega)]
   have et:=en (n - xs.getD i 0).toNat (by omega)
   simp only [Q,at1]
   refine ⟨et.dok,dok_int _,ite2 (fun c2=>?_) (fun c2=>?_)⟩
   ·exact q true ⟨fun _=>⟨_,st i hi,by omega,(et.eqv _).mp c2⟩,fun _=>rfl⟩
   ·rw [hI]
    refine ⟨some (.int (xs.getD i 0)),fun j hj=>?_,rfl⟩
    by_cases z:j=i
    ·subst z
     exact fun h=>c2 ((et.eqv _).mpr h.2)
    ·exact h0 j (by omega)
 ·intro p hp
  rw [hI] at hp
  obtain ⟨w4,h0,rfl⟩:=hp
  simp only [Q]
  refine q false ⟨fun z=>absurd z Bool.false_ne_true,fun ⟨x,hx,h1,h2⟩=>?_⟩
  obtain ⟨j,hj,e⟩:=List.getElem_of_mem hx
  have ej:xs.getD j 0=x:=by rw [List.getD_eq_getElem?_getD,List.getElem?_eq_getElem hj];exact e
  exact absurd ⟨by rw [ej];exact h1,by rw [ej];exact h2⟩ (h0 j hj)
def Tb (b:Int) (N k:Nat) (f:Nat->D):Prop:=∀i:Nat,i<=N->(M.nd b (i:Int)<=k->f i=.int ((M.nd b (i:Int):Nat):Int))/\(¬M.nd b (i:Int)<=k->f i=.non)
theorem Tb.ent {b:Int} {N k:Nat} {f:Nat->D} (h:Tb b N k f) {i:Nat} (hi:i<=N):Ent (f i):=by
 by_cases c:M.nd b (i:Int)<=k
 ·exact .inr ⟨_,(h i hi).1 c⟩
 ·exact .inl ((h i hi).2 c)
theorem Tb.isN {b:Int} {N k:Nat} {f:Nat->D} (h:Tb b N k f) {i:Nat} (hi:i<=N):isN (f i)=decide (k<M.nd b (i:Int)):=by
 by_cases c:M.nd b (i:Int)<=k
 ·rw [(h i hi).1 c,decide_eq_false (by omega)];rfl
 ·rw [(h i hi).2 c,decide_eq_true (by omega)];rfl
theorem Tb.all {b:Int} {N k:Nat} {f:Nat->D} (h:Tb b N k f) (hl:M.lv b N k=[]):mapr N f=(M.tabl b N).map D.int:=by
 unfold mapr M.tabl
 rw [List.map_map]
 refine List.map_congr_left fun i hi=>?_
 rw [List.mem_range] at hi
 refine (h i (by omega)).1 ?_
 by_cases c:M.nd b (i:Int)<=k
 ·exact c
 ·have:(i:Int)∈M.lv b N k:=M.mem_lv.mpr ⟨⟨by omega,by omega⟩,by omega⟩
  rw [hl] at this;cases this
theorem lv_map (b:Int) (N k:Nat):((List.range (N+1)).filter (fun (i:Nat)=>decide (k<M.nd b (i:Int)))).map (fun (i:Nat)=>D.int (i:Int))=(M.lv b N k).map D.int:=by
 unfold M.lv
 rw [List.filter_map,List.map_map]
 rfl
def S_o:PSp:=fun as R=>∃n b:Int,as=[.d (.int n),.d (.int b)]/\0<=n/\n<=10 ^ 4/\2<=b/\b<=36/\R (.ro ((M.tabl b n.toNat).map D.int)) as
theorem ok_o (T:Txt mg) (Df:A_o K mg) (D_b:A_b K mg) (D_a:A_a K mg) (D_p:A_p K mg) (D_d:A_d K mg) (D_e:A_e K mg) (D_g:A_g K mg) (D_c:A_c K mg) (D_C:A_C K mg):FnOk P w K mg base CX0 5 Df.f Df.fd ["bound","base"] (spOf K S_o):=by
 have G_a:=ok_a (P:=P) (w:=w) (base:=base) T D_a D_b
 have G_c:=ok_c (P:=P) (w:=w) (base:=base) T D_c D_p D_d D_e D_b D_a D_g
 have G_C:=ok_C (P:=P) (w:=w) (base:=base) T D_C
 refine Df.F.okP sc_o (fun as R h=>?_) (fun cdv A outer s H E C as R hK hr h=>?_)
 ·obtain ⟨_,_,rfl,_⟩:=h;rfl
 have hu:=hr.units
 obtain ⟨n,b,rfl,n0,n1,b0,b1,q⟩:=h
 obtain ⟨N,rfl⟩:∃N:Nat,n=(N:Int):=⟨n.toNat,by omega⟩
 rw [Int.toNat_natCast] at q
 have N1:N<=10000:=by omega
 have n6:(N:Int)<=10 ^ 6:=Int.le_trans n1 (by decide)
 have mem:∀x,x∈M.mto b (N:Int) ↔ 1<=x/\x<=(N:Int)/\M.mir b x=true:=fun x=>M.mem_mto n0
 have so:=M.mto_sorted b (N:Int)
 have lx:(M.mto b (N:Int)).length<=90000:=by
  have h1:=M.mto_len b (N:Int)
  have h2:=M.cnt_le6 (n:=(N:Int)) b0 b1 n0 n6
  omega
 refine ⟨_,(s_s (s_H (q_fz (n_call hK D_a G_a (hr.mono (by first|decide|omega)) (a_cons (q_var (pv 1)) a_nil))))
    (s_s (s_set (i:=2) sc_o.nd rfl (by simp only [L2.QL]) (q_fz (n_call hK D_c G_c (hr.mono (by first|decide|omega)) (a_cons (q_var (pv 0)) (a_cons (q_var (pv 1)) a_nil)))))
    (s_s (s_setN (i:=3) sc_o.nd rfl (by simp only [L2.QL]) (n_cat (q_fz (n_lst (a_cons (q_c pe_int (fun _=>.int _)) a_nil))) (q_fz (n_rep (q_fz (n_lst (a_cons (q_c pe_non (fun _=>.non)) a_nil))) (q_var (pv 0))))))
    (s_s (s_for PassesOwn.never rfl (i_list hK (q_var (pv 2))) (g_name (i:=4) sc_o.nd rfl (by simp only [L2.QL])) (s_one (s_setI (i:=3) (q_c pe_int (fun _=>.int _)) (pv 3) (q_var (pv 4)))))
    (s_s (s_set (i:=5) sc_o.nd rfl (by simp only [L2.QL]) (q_c pe_int (fun _=>.int _)))
    (s_s (s_setCompD (i:=6) sc_o.nd rfl (by simp only [L2.QL]) (N:=["number","bound","base","parts","told","part","many","left","number'"]) (k:=1) (CompScope.of (show CompSc (defScope s_o) ["bound","base","parts","told","part","many","left","number"] _ ["number","bound","base","parts","told","part","many","left","number'"] 1 from ⟨by rfl,by decide +kernel,by decide +kernel,by rfl,by decide +kernel,by decide +kernel,by decide +kernel,by decide +kernel⟩)) rfl (i_range1 rfl T.z_range (a_cons (q_add (q_var (pv 0)) (q_c pe_int (fun _=>.int _))) a_nil)) (fun Z s H fp=>(gk_name (i:=0) (by decide) (show List.Nodup (["number","bound","base","parts","told","part","many","left","number'"]:List Str) by decide +kernel) rfl (Or.inl rfl) (Or.inr rfl))) (fun Z s H fp=>(ts_one (t_isN (q_ix hK (q_var (pv 4)) (q_var (pv 0)) (fun _ _=>rfl))))) (fun Z s H fp=>(q_var (pv 0))))
    (s_s (s_I PassesOwn.never (t_gt (cb_len hK rfl T.z_len (a_cons (q_var (pv 6)) a_nil)) (q_c pe_int (fun _=>.int _))) (s_s (s_M (i:=5) sc_o.nd rfl (by simp only [L2.QL]) (q_c pe_int (fun _=>.int _)))
    (s_s (s_for PassesOwn.never rfl (i_list hK (q_var (pv 6))) (g_name (i:=7) sc_o.nd rfl (by simp only [L2.QL])) (s_one (s_if (t_val (q_fz (n_call hK D_C G_C (hr.mono (by first|decide|omega)) (a_cons (q_var (pv 7)) (a_cons (q_var (pv 5)) (a_cons (q_var (pv 2)) (a_cons (q_var (pv 3)) a_nil))))))) (s_one (s_setI (i:=3) (q_var (pv 5)) (pv 3) (q_var (pv 7)))) s_nil)))
    (s_one (s_setCompD (i:=6) sc_o.nd rfl (by simp only [L2.QL]) (N:=["number","bound","base","parts","told","part","many","left","number'"]) (k:=1) (CompScope.of (show CompSc (defScope s_o) ["bound","base","parts","told","part","many","left","number"] _ ["number","bound","base","parts","told","part","many","left","number'"] 1 from ⟨by rfl,by decide +kernel,by decide +kernel,by rfl,by decide +kernel,by decide +kernel,by decide +kernel,by decide +kernel⟩)) rfl (i_list hK (q_var (pv 6))) (fun Z s H fp=>(gk_name (i:=0) (by decide) (show List.Nodup (["number","bound","base","parts","told","part","many","left","number'"]:List Str) by decide +kernel) rfl (Or.inl rfl) (Or.inr rfl))) (fun Z s H fp=>(ts_one (t_isN (q_ix hK (q_var (pv 4)) (q_var (pv 0)) (fun _ _=>rfl))))) (fun Z s H fp=>(q_var (pv 0))))))))
    (s_one (s_retO (i:=3) (pv 3)))))))))),?_⟩
 refine seq_goP ?_
 simp only [R,S_a]
 refine ⟨b0,b1,?_⟩
 refine seq_goP ?_
 simp only [R,S_c]
 refine ⟨n0,n6,b0,b1,?_⟩
 generalize hG:M.mto b (N:Int)=xs at *
 have st:∀i,i<xs.length->xs.getD i 0∈xs:=fun i hi=>by rw [List.getD_eq_getElem?_getD,List.getElem?_eq_getElem hi];exact List.getElem_mem hi
 refine seq_goK fun kk hkk=>?_
 simp only [R]
 rw [Int.toNat_natCast]
 have ms:=mapr_start N
 rw [List.cons_append,List.nil_append] at ms
 have fl:(List.replicate N [D.non]).flatten.length=N:=by
  have h1:=congrArg List.length ms
  rw [mapr_len,List.length_cons] at h1
  omega
 rw [ms,fl]
 refine ⟨by omega,by omega,by omega,by omega,hkk _ ?_⟩
 refine seq_cutP (fun p=>∃(f:Nat->D) (w4:Option D),Tb b N 1 f/\p=[some (.d (.int (N:Int))),some (.d (.int b)),some (.d (.lst (xs.map D.int))),some (.own (mapr N f)),Option.map Sl.d w4,none,none,none]) (fun k hk=>?_) ?_
 ·obtain ⟨J,hJ⟩:∃J:Nat->PSt->Prop,J=(fun (i:Nat) p=>∃(f:Nat->D) (w4:Option D),(f 0=.int 0/\∀m:Nat,1<=m->m<=N->((∃j,j<i/\xs.getD j 0=(m:Int))->f m=.int 1)/\((¬∃j,j<i/\xs.getD j 0=(m:Int))->f m=.non))/\p=[some (.d (.int (N:Int))),some (.d (.int b)),some (.d (.lst (xs.map D.int))),some (.own (mapr N f)),Option.map Sl.d w4,none,none,none]):=⟨_,rfl⟩
  refine for_q (n:=xs.length) (item:=fun i=>(xs.map D.int).getD i .non) (p1:=_) (fun Q h=>by simp only [Q,List.length_map];exact h) J (by
   rw [hJ]
   refine ⟨_,none,⟨rfl,fun m m1 m2=>⟨fun zq=>by obtain ⟨j,hj,_⟩:=zq;exact absurd hj (by omega),fun _=>?_⟩⟩,rfl⟩
   exact if_neg (by omega)) ?_ ?_
  ·intro i p hi hp
   rw [hJ] at hp
   obtain ⟨f,w4,⟨f0,fm⟩,rfl⟩:=hp
   obtain ⟨x1,x2,x3⟩:=(mem _).mp (st i hi)
   rw [getD_ints hi]
   simp only [Q,mapr_len]
   refine ⟨_,ix_in (by omega) x2,?_⟩
   rw [mapr_set,hJ]
   refine ⟨_,some (.int (xs.getD i 0)),⟨by rw [if_neg (by omega)];exact f0,fun m m1 m2=>⟨fun ⟨j,hj,e⟩=>?_,fun nx=>?_⟩⟩,rfl⟩
   ·by_cases z:m=(xs.getD i 0).toNat
    ·exact if_pos z
    ·rw [if_neg z]
     refine (fm m m1 m2).1 ⟨j,?_,e⟩
     by_cases y:j=i
     ·subst y;omega
     ·omega
   ·rw [if_neg (fun z=>nx ⟨i,by omega,by omega⟩)]
    exact (fm m m1 m2).2 fun ⟨j,hj,e⟩=>nx ⟨j,by omega,e⟩
  ·intro p hp
   rw [hJ] at hp
   obtain ⟨f,w4,⟨f0,fm⟩,rfl⟩:=hp
   refine hk _ ⟨f,w4,fun m hm=>?_,rfl⟩
   by_cases z:m=0
   ·subst z
    rw [show ((0:Nat):Int)=0 from rfl,M.nd_zero b0]
    exact ⟨fun _=>f0,fun h=>absurd (Nat.zero_le _) h⟩
   ·have o:=M.nd_one b0 (show (1:Int)<=(m:Int) by omega)
    have ps:=M.nd_pos b0 (show (1:Int)<=(m:Int) by omega)
    refine ⟨fun h=>?_,fun h=>?_⟩
    ·have hm2:(m:Int)∈xs:=(mem _).mpr ⟨by omega,by omega,o.mp h⟩
     obtain ⟨j,hj,e⟩:=List.getElem_of_mem hm2
     rw [show M.nd b (m:Int)=1 by omega]
     refine (fm m (by omega) hm).1 ⟨j,hj,?_⟩
     rw [List.getD_eq_getElem?_getD,List.getElem?_eq_getElem hj];exact e
    ·refine (fm m (by omega) hm).2 fun ⟨j,hj,e⟩=>h (o.mpr ?_)
     have:=((mem _).mp (st j hj)).2.2
     rw [e] at this;exact this
 rintro p ⟨f,w4,tb,rfl⟩
 refine seq_goK fun kk hkk=>?_
 simp only [R]
 refine hkk _ ?_
 refine seq_goK fun kk hkk=>?_
 simp only [R]
 refine comp_filter (n:=N+1) (item:=fun (i:Nat)=>.int (i:Int)) (p1:=_) (fun Q h=>by
   simp only [Q]
   have e:((N:Int)+1).toNat=N+1:=by omega
   rw [e]
   exact ⟨by omega,by omega,h⟩) (by omega) (fun (i:Nat)=>decide (1<M.nd b (i:Int))) (fun (i:Nat)=>.int (i:Int)) (fun i R hi h=>?_) (fun i R hi hf h=>?_) ?_
 ·have at1:atI (mapr N f) (i:Int)=some (f i):=by rw [atD (by omega) (by rw [mapr_len];omega),mapr_at (by omega)];rfl
  by_cases c:M.nd b (i:Int)<=1
  ·have e:=(tb i (by omega)).1 c
   rw [decide_eq_false (by omega)] at h
   simp only [Q,at1,e]
   exact h
  ·have e:=(tb i (by omega)).2 c
   rw [decide_eq_true (by omega)] at h
   simp only [Q,at1,e]
   exact h
 ·simp only [Q]
  exact h
 rw [lv_map]
 simp only [R]
 refine hkk _ ?_
 refine seq_cutP (fun p=>∃(k:Nat) (f:Nat->D) (w4 w7:Option D),Tb b N k f/\M.lv b N k=[]/\p=[some (.d (.int (N:Int))),some (.d (.int b)),some (.d (.lst (xs.map D.int))),some (.own (mapr N f)),Option.map Sl.d w4,some (.d (.int (k:Int))),some (.d (.lst ((M.lv b N k).map D.int))),Option.map Sl.d w7]) (fun kk hkk=>?_) ?_
 ·obtain ⟨W,hW⟩:∃W:PSt->Prop,W=(fun p=>∃(k:Nat) (f:Nat->D) (w4 w7:Option D),Tb b N k f/\p=[some (.d (.int (N:Int))),some (.d (.int b)),some (.d (.lst (xs.map D.int))),some (.own (mapr N f)),Option.map Sl.d w4,some (.d (.int (k:Int))),some (.d (.lst ((M.lv b N k).map D.int))),Option.map Sl.d w7]):=⟨_,rfl⟩
  refine while_q W (fun p=>match p[5]? with|some (some (Sl.d (D.int r)))=>N - r.toNat|_=>0) (by rw [hW];exact ⟨1,f,w4,none,tb,rfl⟩) ?_
  intro p hp
  rw [hW] at hp
  obtain ⟨k,f,w4,w7,tb,rfl⟩:=hp
  have ll:=M.lv_len b N k
  by_cases c:(M.lv b N k).length=0
  ·simp only [Q,List.length_map,c]
   exact hkk _ ⟨k,f,w4,w7,tb,List.length_eq_zero_iff.mp c,rfl⟩
  ·have lp:(0:Int)<((M.lv b N k).length:Int):=by omega
   have kN:k<N:=by
    obtain ⟨x,hx⟩:=List.exists_mem_of_length_pos (show 0<(M.lv b N k).length by omega)
    obtain ⟨⟨h1,h2⟩,h3⟩:=M.mem_lv.mp hx
    have:=M.nd_le b0 h1
    omega
   simp only [R,List.length_map,lp]
   have ln:=M.lv_next b N k
   have ml:∀x,x∈M.lv b N k ↔ (0<=x/\x<=(N:Int))/\k<M.nd b x:=fun x=>M.mem_lv
   generalize hL:M.lv b N k=ls at *
   have sl:∀i,i<ls.length->ls.getD i 0∈ls:=fun i hi=>by rw [List.getD_eq_getElem?_getD,List.getElem?_eq_getElem hi];exact List.getElem_mem hi
   refine seq_goK fun k1 hk1=>?_
   simp only [R]
   refine hk1 _ ?_
   refine seq_cutP (fun p=>∃(f':Nat->D) (w7:Option D),Tb b N (k+1) f'/\p=[some (.d (.int (N:Int))),some (.d (.int b)),some (.d (.lst (xs.map D.int))),some (.own (mapr N f')),Option.map Sl.d w4,some (.d (.int ((k:Int)+1))),some (.d (.lst (ls.map D.int))),Option.map Sl.d w7]) (fun k2 hk2=>?_) ?_
   ·obtain ⟨J,hJ⟩:∃J:Nat->PSt->Prop,J=(fun (j:Nat) p=>∃(f':Nat->D) (w7:Option D),(∀i:Nat,i<=N->(M.nd b (i:Int)<=k->f' i=.int ((M.nd b (i:Int):Nat):Int))/\(¬M.nd b (i:Int)<=k->((∃y,y<j/\ls.getD y 0=(i:Int))->f' i=if M.nd b (i:Int)=k+1 then .int ((k:Int)+1) else .non)/\((¬∃y,y<j/\ls.getD y 0=(i:Int))->f' i=.non)))/\p=[some (.d (.int (N:Int))),some (.d (.int b)),some (.d (.lst (xs.map D.int))),some (.own (mapr N f')),Option.map Sl.d w4,some (.d (.int ((k:Int)+1))),some (.d (.lst (ls.map D.int))),Option.map Sl.d w7]):=⟨_,rfl⟩
    refine for_q (n:=ls.length) (item:=fun i=>(ls.map D.int).getD i .non) (p1:=_) (fun Q h=>by simp only [Q,List.length_map];exact h) J (by
     rw [hJ]
     exact ⟨f,w7,fun i hi=>⟨(tb i hi).1,fun c=>⟨fun zq=>by obtain ⟨y,hy,_⟩:=zq;exact absurd hy (by omega),fun _=>(tb i hi).2 c⟩⟩,rfl⟩) ?_ ?_
    ·intro j p hj hp
     rw [hJ] at hp
     obtain ⟨f',w7',fi,rfl⟩:=hp
     obtain ⟨⟨x1,x2⟩,x3⟩:=(ml _).mp (sl j hj)
     rw [getD_ints hj]
     obtain ⟨m,hm⟩:∃m:Nat,ls.getD j 0=(m:Int):=⟨(ls.getD j 0).toNat,by omega⟩
     rw [hm] at x1 x2 x3 ⊢
     have en:∀i,i<=N->Ent (f' i):=fun i hi=>by
      by_cases c:M.nd b (i:Int)<=k
      ·exact .inr ⟨_,(fi i hi).1 c⟩
      ·by_cases c2:∃y,y<j/\ls.getD y 0=(i:Int)
       ·rw [((fi i hi).2 c).1 c2]
        split
        ·exact .inr ⟨_,rfl⟩
        ·exact .inl rfl
       ·exact .inl (((fi i hi).2 c).2 c2)
     simp only [Q,S_C]
     refine ⟨xs,rfl,N,f',rfl,by omega,x2,by omega,so,fun x hx=>((mem x).mp hx).1,lx,en,fun r hr=>?_⟩
     have key:r=true ↔ M.nd b (m:Int)=k+1:=by
      rw [hr]
      constructor
      ·rintro ⟨x,hx,h1,h2⟩
       obtain ⟨y1,y2,y3⟩:=(mem x).mp hx
       have ei:(((m:Int) - x).toNat:Int)=(m:Int) - x:=by omega
       have hi:((m:Int) - x).toNat<=N:=by omega
       have fx:=fi _ hi
       rw [ei] at fx
       have up:=M.nd_up b0 y1 y3 h1
       by_cases c:M.nd b ((m:Int) - x)<=k
       ·rw [fx.1 c] at h2
        injection h2 with h3
        omega
       ·exfalso
        by_cases c2:∃y,y<j/\ls.getD y 0=(m:Int) - x
        ·rw [(fx.2 c).1 c2] at h2
         split at h2
         ·injection h2 with h3;omega
         ·cases h2
        ·rw [(fx.2 c).2 c2] at h2;cases h2
      ·intro h
       obtain ⟨p,p1,p2,p3,p4⟩:=M.nd_down b0 (by omega) h
       have ei:(((m:Int) - p).toNat:Int)=(m:Int) - p:=by omega
       have fx:=fi ((m:Int) - p).toNat (by omega)
       rw [ei,p4] at fx
       exact ⟨p,(mem p).mpr ⟨p1,by omega,p2⟩,p3,by rw [fx.1 (Nat.le_refl _),Int.add_sub_cancel]⟩
     refine ite2 (fun c=>?_) (fun c=>?_)
     ·have em:=key.mp c
      refine ⟨m,by rw [mapr_len];exact ix_in (by omega) x2,?_⟩
      rw [mapr_set,hJ]
      refine ⟨_,some (.int (m:Int)),fun i hi=>⟨fun h=>?_,fun h=>⟨fun ⟨y,hy,e⟩=>?_,fun nx=>?_⟩⟩,rfl⟩
      ·rw [if_neg (fun z=>by subst z;omega)]
       exact (fi i hi).1 h
      ·by_cases z:i=m
       ·subst z
        rw [if_pos rfl,if_pos em]
       ·rw [if_neg z]
        refine ((fi i hi).2 h).1 ⟨y,?_,e⟩
        by_cases z2:y=j
        ·rw [z2,hm] at e;omega
        ·omega
      ·rw [if_neg (fun z=>nx ⟨j,by omega,by rw [hm,z]⟩)]
       exact ((fi i hi).2 h).2 fun ⟨y,hy,e⟩=>nx ⟨y,by omega,e⟩
     ·have em:¬M.nd b (m:Int)=k+1:=fun z=>c (key.mpr z)
      rw [hJ]
      refine ⟨f',some (.int (m:Int)),fun i hi=>⟨(fi i hi).1,fun h=>⟨fun ⟨y,hy,e⟩=>?_,fun nx=>?_⟩⟩,rfl⟩
      ·by_cases z:∃y,y<j/\ls.getD y 0=(i:Int)
       ·exact ((fi i hi).2 h).1 z
       ·have ey:y=j:=by
         by_cases z2:y=j
         ·exact z2
         ·exact absurd ⟨y,by omega,e⟩ z
        rw [ey,hm] at e
        have ei:i=m:=by omega
        subst ei
        rw [if_neg em]
        exact ((fi _ hi).2 h).2 z
      ·exact ((fi i hi).2 h).2 fun ⟨y,hy,e⟩=>nx ⟨y,by omega,e⟩
    ·intro p hp
     rw [hJ] at hp
     obtain ⟨f',w7',fi,rfl⟩:=hp
     refine hk2 _ ⟨f',w7',fun i hi=>⟨fun h=>?_,fun h=>?_⟩,rfl⟩
     ·by_cases c:M.nd b (i:Int)<=k
      ·exact (fi i hi).1 c
      ·have e:M.nd b (i:Int)=k+1:=by omega
       have hm2:(i:Int)∈ls:=(ml _).mpr ⟨⟨by omega,by omega⟩,by omega⟩
       obtain ⟨y,hy,ey⟩:=List.getElem_of_mem hm2
       have:=((fi i hi).2 c).1 ⟨y,hy,by rw [List.getD_eq_getElem?_getD,List.getElem?_eq_getElem hy];exact ey⟩
       rw [if_pos e] at this
       rw [this,e];rfl
     ·have c:¬M.nd b (i:Int)<=k:=by omega
      by_cases c2:∃y,y<ls.length/\ls.getD y 0=(i:Int)
      ·rw [((fi i hi).2 c).1 c2,if_neg (by omega)]
      ·exact ((fi i hi).2 c).2 c2
   rintro p ⟨f',w7',tb',rfl⟩
   simp only [R]
   refine comp_filter (n:=ls.length) (item:=fun i=>(ls.map D.int).getD i .non) (p1:=_) (fun Q h=>by simp only [Q,List.length_map];exact h) (by omega) (fun i=>decide (k+1<M.nd b (ls.getD i 0))) (fun i=>.int (ls.getD i 0)) (fun i R hi h=>?_) (fun i R hi hf h=>?_) ?_
   ·obtain ⟨⟨x1,x2⟩,x3⟩:=(ml _).mp (sl i hi)
    rw [getD_ints hi] at h ⊢
    obtain ⟨m,hm⟩:∃m:Nat,ls.getD i 0=(m:Int):=⟨(ls.getD i 0).toNat,by omega⟩
    rw [hm] at x1 x2 x3 h ⊢
    have at1:atI (mapr N f') (m:Int)=some (f' m):=by rw [atD (by omega) (by rw [mapr_len];omega),mapr_at (by omega)];rfl
    by_cases c:M.nd b (m:Int)<=k+1
    ·have e:=(tb' m (by omega)).1 c
     rw [decide_eq_false (by omega)] at h
     simp only [Q,at1,e]
     exact h
    ·have e:=(tb' m (by omega)).2 c
     rw [decide_eq_true (by omega)] at h
     simp only [Q,at1,e]
     exact h
   ·rw [getD_ints hi] at h ⊢
    simp only [Q]
    exact h
   have fr:=M.filter_range (fun x=>decide (k+1<M.nd b x)) D.int ls
   rw [fr,ln]
   simp only [Q]
   refine ⟨?_,by omega⟩
   rw [hW]
   exact ⟨k+1,f',w4,w7',tb',rfl⟩
 rintro p ⟨k,f,w4,w7,tb,hl,rfl⟩
 have ea:=tb.all hl
 simp only [Q,ea]
 exact q
end
abbrev s_B:Stmt:=top 35
abbrev A_B (K:PySem.W.Frag) (mg:Str->Option Value):=DefAt K mg "how_many" s_B ["bound","base","many"]
theorem sc_B:FnScope ["bound","base","many"] ["bound","base","many"] (defScope s_B):=⟨rfl,rfl,rfl,by decide +kernel,rfl,by decide +kernel,by decide +kernel⟩
abbrev s_D:Stmt:=top 36
abbrev A_D (K:PySem.W.Frag) (mg:Str->Option Value):=DefAt K mg "hardest" s_D ["bound","base"]
theorem sc_D:FnScope ["bound","base","told","most"] ["bound","base"] (defScope s_D):=⟨rfl,rfl,rfl,by decide +kernel,rfl,by decide +kernel,by decide +kernel⟩
section
variable {P:Program} {w:World} {K:PySem.W.Frag} {mg:Str->Option Value} {base:Heap}
noncomputable def ctw (b:Int) (N:Nat) (m:Int):Nat:=((M.tabl b N).drop 1).countP fun x=>decide (x=m)
theorem tabl_len (b:Int) (N:Nat):(M.tabl b N).length=N+1:=by unfold M.tabl;rw [List.length_map,List.length_range]
theorem cnt_ints (m:Int) (xs:List Int):(xs.map D.int).countP (fun z=>deqv z (.int m))=xs.countP fun x=>decide (x=m):=by
 rw [List.countP_map]
 have e:((fun z=>deqv z (.int m)) ∘ D.int)=fun x=>decide (x=m):=by
  funext x
  exact deqv_int x m
 rw [e]
def S_B:PSp:=fun as R=>∃n b m:Int,as=[.d (.int n),.d (.int b),.d (.int m)]/\0<=n/\n<=10 ^ 4/\2<=b/\b<=36/\R (.rd (.int ((ctw b n.toNat m:Nat):Int))) as
theorem ok_B (T:Txt mg) (Df:A_B K mg) (D_b:A_b K mg) (D_a:A_a K mg) (D_p:A_p K mg) (D_d:A_d K mg) (D_e:A_e K mg) (D_g:A_g K mg) (D_c:A_c K mg) (D_C:A_C K mg) (D_o:A_o K mg):FnOk P w K mg base CX0 6 Df.f Df.fd ["bound","base","many"] (spOf K S_B):=by
 have G_a:=ok_a (P:=P) (w:=w) (base:=base) T D_a D_b
 have G_o:=ok_o (P:=P) (w:=w) (base:=base) T D_o D_b D_a D_p D_d D_e D_g D_c D_C
 refine Df.F.okP sc_B (fun as R h=>?_) (fun cdv A outer s H E C as R hK hr h=>?_)
 ·obtain ⟨_,_,_,rfl,_⟩:=h;rfl
 have hu:=hr.units
 obtain ⟨n,b,m,rfl,n0,n1,b0,b1,q⟩:=h
 have hcut:cut ((M.tabl b n.toNat).map D.int) (some 1) none=((M.tabl b n.toNat).drop 1).map D.int:=by rw [show (1:Int)=((1:Nat):Int) from rfl,cut_drop,List.map_drop]
 refine ⟨_,(s_s (s_H (q_fz (n_call hK D_a G_a (hr.mono (by first|decide|omega)) (a_cons (q_var (pv 1)) a_nil))))
    (s_one (s_ret (n_val (m_count hK hu (q_fz (n_sl hK (q_fz (n_call hK D_o G_o (hr.mono (by first|decide|omega)) (a_cons (q_var (pv 0)) (a_cons (q_var (pv 1)) a_nil)))) (o_some (q_c pe_int (fun _=>.int _))) o_none)) (a_cons (q_var (pv 2)) a_nil)))))),?_⟩;simp only [Q,and_assoc,S_a,S_o]
 refine ⟨b0,b1,n0,n1,b0,b1,?_⟩
 simp only [Q,hcut]
 rw [cnt_ints]
 refine ⟨dok_int _,dok_ints _,q⟩
noncomputable def hv (b:Int) (N:Nat) (m:Int):List Int:=((List.range (N+1)).map fun (i:Nat)=>(i:Int)).filter fun i=>decide (((M.nd b i:Nat):Int)=m)
theorem hv_map (b:Int) (N:Nat) (m:Int):((List.range (N+1)).filter (fun (i:Nat)=>decide (((M.nd b (i:Int):Nat):Int)=m))).map (fun (i:Nat)=>D.int (i:Int))=(hv b N m).map D.int:=by
 unfold hv
 rw [List.filter_map,List.map_map]
 rfl
theorem tabl_at {b:Int} {N:Nat} {n:Int} (n0:0<=n) (n1:n<=(N:Int)):atI ((M.tabl b N).map D.int) n=some (.int ((M.nd b n:Nat):Int)):=by
 have hl:=tabl_len b N
 rw [atInts n0 (by omega)]
 unfold M.tabl
 rw [List.getD_eq_getElem?_getD,List.getElem?_map,List.getElem?_range (by omega)]
 show some (D.int ((M.nd b ((n.toNat:Nat):Int):Nat):Int))=_
 rw [show ((n.toNat:Nat):Int)=n by omega]
theorem tabl_ne (b:Int) (N:Nat):M.tabl b N≠[]:=fun z=>by
 have:=tabl_len b N
 rw [z] at this
 simp at this
def S_D:PSp:=fun as R=>∃n b:Int,as=[.d (.int n),.d (.int b)]/\0<=n/\n<=10 ^ 4/\2<=b/\b<=36/\∀m:Int,m∈M.tabl b n.toNat->(∀x∈M.tabl b n.toNat,x<=m)->R (.ro ((hv b n.toNat m).map D.int)) as
theorem ok_D (T:Txt mg) (Df:A_D K mg) (D_b:A_b K mg) (D_a:A_a K mg) (D_p:A_p K mg) (D_d:A_d K mg) (D_e:A_e K mg) (D_g:A_g K mg) (D_c:A_c K mg) (D_C:A_C K mg) (D_o:A_o K mg):FnOk P w K mg base CX0 6 Df.f Df.fd ["bound","base"] (spOf K S_D):=by
 have G_a:=ok_a (P:=P) (w:=w) (base:=base) T D_a D_b
 have G_o:=ok_o (P:=P) (w:=w) (base:=base) T D_o D_b D_a D_p D_d D_e D_g D_c D_C
 refine Df.F.okP sc_D (fun as R h=>?_) (fun cdv A outer s H E C as R hK hr h=>?_)
 ·obtain ⟨_,_,rfl,_⟩:=h;rfl
 have hu:=hr.units
 obtain ⟨n,b,rfl,n0,n1,b0,b1,q⟩:=h
 refine ⟨_,(s_s (s_H (q_fz (n_call hK D_a G_a (hr.mono (by first|decide|omega)) (a_cons (q_var (pv 1)) a_nil))))
    (s_s (s_set (i:=2) sc_D.nd rfl (by simp only [L2.QL]) (q_fz (n_call hK D_o G_o (hr.mono (by first|decide|omega)) (a_cons (q_var (pv 0)) (a_cons (q_var (pv 1)) a_nil)))))
    (s_s (s_set (i:=3) sc_D.nd rfl (by simp only [L2.QL]) (cb_maxL hK rfl rfl T.z_max (a_cons (q_var (pv 2)) a_nil)))
    (s_one (s_ret (n_comp (N:=["number","bound","base","told","most"]) (k:=1) (CompScope.of (show CompSc (defScope s_D) ["bound","base","told","most"] _ ["number","bound","base","told","most"] 1 from ⟨by rfl,by decide +kernel,by decide +kernel,by rfl,by decide +kernel,by decide +kernel,by decide +kernel,by decide +kernel⟩)) rfl (i_range1 rfl T.z_range (a_cons (q_add (q_var (pv 0)) (q_c pe_int (fun _=>.int _))) a_nil)) (fun Z s H fp=>(gk_name (i:=0) (by decide) (show List.Nodup (["number","bound","base","told","most"]:List Str) by decide +kernel) rfl (Or.inl rfl) (Or.inr rfl))) (fun Z s H fp=>(ts_one (t_eq hK hu (q_ix hK (q_var (pv 3)) (q_var (pv 0)) (fun _ _=>rfl)) (q_var (pv 4))))) (fun Z s H fp=>(q_var (pv 0))))))))),?_⟩
 refine seq_goK fun kk hkk=>?_
 simp only [R,S_a]
 refine ⟨b0,b1,hkk _ ?_⟩
 refine seq_goK fun kk hkk=>?_
 simp only [R,S_o]
 refine ⟨n0,n1,b0,b1,hkk _ ?_⟩
 refine seq_goK fun kk hkk=>?_
 simp only [R]
 refine ⟨_,rfl,tabl_ne b _,fun m m1 m2=>hkk _ ?_⟩
 simp only [R]
 refine comp_filter (n:=n.toNat+1) (item:=fun (i:Nat)=>.int (i:Int)) (p1:=_) (fun Q h=>by
   simp only [Q]
   rw [show (n+1).toNat=n.toNat+1 by omega]
   exact ⟨by omega,by omega,h⟩) (by omega) (fun (i:Nat)=>decide (((M.nd b (i:Int):Nat):Int)=m)) (fun (i:Nat)=>.int (i:Int)) (fun i R hi h=>?_) (fun i R hi hf h=>?_) ?_
 ·have ta:=tabl_at (b:=b) (N:=n.toNat) (n:=(i:Int)) (by omega) (by omega)
  simp only [Q,ta]
  exact h
 ·simp only [Q]
  exact h
 rw [hv_map]
 simp only [Q]
 exact q m m1 m2
end
abbrev s_w:Stmt:=top 44
abbrev A_w (K:PySem.W.Frag) (mg:Str->Option Value):=DefAt K mg "_law_asked" s_w ["at","world"]
theorem sc_w:FnScope ["at","world","base","number","many","drawn","every","way","kept","place"] ["at","world"] (defScope s_w):=⟨rfl,rfl,rfl,by decide +kernel,rfl,by decide +kernel,by decide +kernel⟩
section
variable {P:Program} {w:World} {K:PySem.W.Frag} {mg:Str->Option Value} {base:Heap}
def Told (t b n:Int) (m:Nat) (d:Int) (xs ys:List D):Prop:=
 (t=0/\∃L,M.Gt b (M.nd b n) n L/\xs=L.map D.int/\ys=[]) \/
 (t=1/\xs=(M.tabl b n.toNat).map D.int/\∃k,k∈M.tabl b n.toNat/\(∀x∈M.tabl b n.toNat,x<=k)/\ys=(hv b n.toNat k).map D.int) \/
 (t=2/\xs=[.int (M.cg true (M.mto b n).reverse m n),.int (M.cg false (M.mto b n).reverse 0 n),.int ((ctw b n.toNat m:Nat):Int)]/\ys=[]) \/
 (t=3/\M.cg true (M.mto b n).reverse m n=0/\xs=[]/\ys=[]) \/
 (t=3/\M.cg true (M.mto b n).reverse m n≠0/\xs=(M.wat (M.mto b n).reverse m n (d % M.cg true (M.mto b n).reverse m n)).map D.int/\ys=[.int (M.rk (M.mto b n).reverse n (M.wat (M.mto b n).reverse m n (d % M.cg true (M.mto b n).reverse m n))),.bl true])
theorem Told.uniq {t b n : Int} {m : Nat} {d : Int} {xs ys xs' ys' : List D} (h : Told t b n m d xs ys) (h' : Told t b n m d xs' ys') : xs = xs' ∧ ys = ys' := by
  rcases h with ⟨e, L, g, rfl, rfl⟩ | ⟨e, rfl, k, k1, k2, rfl⟩ | ⟨e, rfl, rfl⟩ | ⟨e, c, rfl, rfl⟩ | ⟨e, c, rfl, rfl⟩ <;> rcases h' with ⟨e', L', g', rfl, rfl⟩ | ⟨e', rfl, k', k1', k2', rfl⟩ | ⟨e', rfl, rfl⟩ | ⟨e', c', rfl, rfl⟩ | ⟨e', c', rfl, rfl⟩ <;> first
    | (exfalso; omega)
    | exact ⟨rfl, rfl⟩
    | (rw [g.uniq g']; exact ⟨rfl, rfl⟩)
    | (have h1 := k2 _ k1'
       have h2 := k2' _ k1
       have h3 : k = k' := by omega
       rw [h3]; exact ⟨rfl, rfl⟩)
    | exact absurd c c'
    | exact absurd c' c
def S_w:VSp:=fun W ds R=>∃(t b n:Int) (m:Nat) (d:Int),ds=[.int t,.tup [.int b,.int n,.int m,.int d]]/\0<=t/\t<=3/\2<=b/\b<=36/\0<=n/\n<=60/\m<=12/\0<=d/\∀xs ys vs us b1 b2 a,Told t b n m d xs ys->flaVs xs=some vs->flaVs ys=some us->W b1=none->upd W b1 (.lst vs) b2=none->upd (upd W b1 (.lst vs)) b2 (.lst us) a=none->R (.atom (.ref a)) (upd (upd (upd W b1 (.lst vs)) b2 (.lst us)) a (.lst [.ref b1,.ref b2]))
theorem ok_w (T:Txt mg) (Df:A_w K mg) (D_b:A_b K mg) (D_a:A_a K mg) (D_q:A_q K mg) (D_v:A_v K mg) (D_m:A_m K mg) (D_p:A_p K mg) (D_d:A_d K mg) (D_e:A_e K mg) (D_g:A_g K mg) (D_c:A_c K mg) (D_y:A_y K mg) (D_f:A_f K mg) (D_n:A_n K mg) (D_t:A_t K mg) (D_h:A_h K mg) (D_x:A_x K mg) (D_k:A_k K mg) (D_j:A_j K mg) (D_l:A_l K mg) (D_F:A_F K mg) (D_C:A_C K mg) (D_o:A_o K mg) (D_D:A_D K mg) (D_z:A_z K mg) (D_B:A_B K mg):FnOk P w K mg base CX0 24 Df.f Df.fd ["at","world"] (spV K S_w):=by
 have G_y:=ok_y (P:=P) (w:=w) (base:=base) T D_y D_b D_a D_q D_v D_m D_p D_d D_e D_g D_c
 have G_t:=ok_t (P:=P) (w:=w) (base:=base) T D_t D_b D_a D_p D_d D_e D_g D_c D_q D_v D_m D_f D_n
 have G_k:=ok_k (P:=P) (w:=w) (base:=base) T D_k D_b D_a D_p D_d D_e D_g D_c D_q D_v D_m D_h D_x D_f D_n
 have G_F:=ok_F (P:=P) (w:=w) (base:=base) T D_F D_b D_a D_g D_h D_p D_d D_e D_c D_j D_l
 have G_o:=ok_o (P:=P) (w:=w) (base:=base) T D_o D_b D_a D_p D_d D_e D_g D_c D_C
 have G_D:=ok_D (P:=P) (w:=w) (base:=base) T D_D D_b D_a D_p D_d D_e D_g D_c D_C D_o
 have G_z:=ok_z (P:=P) (w:=w) (base:=base) T D_z D_b D_a D_p D_d D_e D_g D_c
 have G_B:=ok_B (P:=P) (w:=w) (base:=base) T D_B D_b D_a D_p D_d D_e D_g D_c D_C D_o
 refine Df.F.okV sc_w (fun W ds R h=>?_) (fun cdv A outer s H E C W ds R hK hr h=>?_)
 ·obtain ⟨_,_,_,_,_,rfl,_⟩:=h;rfl
 have hu:=hr.units
 obtain ⟨t,b,n,m,d,rfl,t0,t1,b0,b1,n0,n1,m1,d0,q⟩:=h
 refine ⟨_,(v_cons (v_lift (fun W ok=>(s_asg (q_var (pv 1)) (g_tup (n:=4) hK rfl (gs_cons (g_name (i:=2) sc_w.nd rfl (by simp only [L2.QL])) (gs_cons (g_name (i:=3) sc_w.nd rfl (by simp only [L2.QL])) (gs_cons (g_name (i:=4) sc_w.nd rfl (by simp only [L2.QL])) (gs_cons (g_name (i:=5) sc_w.nd rfl (by simp only [L2.QL])) gs_nil))))))))
    (v_cons (v_if (fun W ok=>(t_eq hK hu (q_var (pv 0)) (q_c pe_int (fun _=>.int _)))) (v_one (v_retE (e_two (fun W ok=>(n_call hK D_F G_F (hr.mono (by first|decide|omega)) (a_cons (q_var (pv 3)) (a_cons (q_var (pv 2)) a_nil)))) (fun W ok=>(n_lst a_nil))))) v_nil)
    (v_cons (v_if (fun W ok=>(t_eq hK hu (q_var (pv 0)) (q_c pe_int (fun _=>.int _)))) (v_one (v_retE (e_two (fun W ok=>(n_call hK D_o G_o (hr.mono (by first|decide|omega)) (a_cons (q_var (pv 3)) (a_cons (q_var (pv 2)) a_nil)))) (fun W ok=>(n_call hK D_D G_D (hr.mono (by first|decide|omega)) (a_cons (q_var (pv 3)) (a_cons (q_var (pv 2)) a_nil))))))) v_nil)
    (v_cons (v_if (fun W ok=>(t_eq hK hu (q_var (pv 0)) (q_c pe_int (fun _=>.int _)))) (v_one (v_retE (e_two (fun W ok=>(n_lst (a_cons (q_fz (n_call hK D_y G_y (hr.mono (by first|decide|omega)) (a_cons (q_var (pv 3)) (a_cons (q_var (pv 2)) (a_cons (q_var (pv 4)) a_nil))))) (a_cons (q_fz (n_call hK D_z G_z (hr.mono (by first|decide|omega)) (a_cons (q_var (pv 3)) (a_cons (q_var (pv 2)) a_nil)))) (a_cons (q_fz (n_call hK D_B G_B (hr.mono (by first|decide|omega)) (a_cons (q_var (pv 3)) (a_cons (q_var (pv 2)) (a_cons (q_var (pv 4)) a_nil))))) a_nil))))) (fun W ok=>(n_lst a_nil))))) v_nil)
    (v_cons (v_lift (fun W ok=>(s_set (i:=6) sc_w.nd rfl (by simp only [L2.QL]) (q_fz (n_call hK D_y G_y (hr.mono (by first|decide|omega)) (a_cons (q_var (pv 3)) (a_cons (q_var (pv 2)) (a_cons (q_var (pv 4)) a_nil))))))))
    (v_cons (v_if (fun W ok=>(t_eq hK hu (q_var (pv 6)) (q_c pe_int (fun _=>.int _)))) (v_one (v_retE (e_two (fun W ok=>(n_lst a_nil)) (fun W ok=>(n_lst a_nil))))) v_nil)
    (v_cons (v_lift (fun W ok=>(s_setN (i:=7) sc_w.nd rfl (by simp only [L2.QL]) (n_call hK D_t G_t (hr.mono (by first|decide|omega)) (a_cons (q_var (pv 3)) (a_cons (q_var (pv 2)) (a_cons (q_var (pv 4)) (a_cons (q_mod (q_var (pv 5)) (q_var (pv 6))) a_nil))))))))
    (v_cons (v_lift (fun W ok=>(s_set (i:=8) sc_w.nd rfl (by simp only [L2.QL]) (q_fz (cb_list hK rfl T.z_list (a_cons (q_var (pv 7)) a_nil))))))
    (v_cons (v_lift (fun W ok=>(s_set (i:=9) sc_w.nd rfl (by simp only [L2.QL]) (q_fz (n_callF hK D_k G_k (hr.mono (by first|decide|omega)) (a_cons (q_var (pv 3)) (a_cons (q_var (pv 2)) (a_cons (q_var (pv 7)) a_nil))))))))
    (v_one (v_retE (e_twoO (i:=7) (fun W ok=>(q_var (pv 7))) (fun W ok=>(n_lst (a_cons (q_var (pv 9)) (a_cons (q_eq hK hu (q_var (pv 7)) (q_var (pv 8))) a_nil)))))))))))))))),?_⟩
 show vSeq _ _ _ _ _
 refine vseq_goK fun kk hkk=>?_
 simp only [R]
 refine hkk _ _ ?_
 clear hkk kk
 refine vseq_goK fun kk hkk=>?_
 simp only [R,S_F]
 refine ite2 (fun e=>?_) (fun e0=>hkk _ _ ?_)
 ·refine ⟨n0,by omega,b0,b1,fun L g=>⟨_,flaVs_ints L,fun b1 h1 b2 h2 a ha=>q _ _ _ _ b1 b2 a (.inl ⟨e,L,g,rfl,rfl⟩) (flaVs_ints L) rfl h1 h2 ha⟩⟩
 clear hkk kk
 refine vseq_goK fun kk hkk=>?_
 simp only [R,S_o,S_D]
 refine ite2 (fun e=>?_) (fun e1=>hkk _ _ ?_)
 ·refine ⟨n0,by omega,b0,b1,_,flaVs_ints _,fun b1' h1=>⟨n0,by omega,b0,b1,fun k k1 k2=>⟨_,flaVs_ints _,fun b2 h2 a ha=>q _ _ _ _ b1' b2 a (.inr (.inl ⟨e,rfl,k,k1,k2,rfl⟩)) (flaVs_ints _) (flaVs_ints _) h1 h2 ha⟩⟩⟩
 clear hkk kk
 refine vseq_goK fun kk hkk=>?_
 simp only [R,S_y,S_z,S_B]
 refine ite2 (fun e=>?_) (fun e2=>hkk _ _ ?_)
 ·refine ⟨m,rfl,n0,by omega,b0,b1,by omega,n0,by omega,b0,b1,n0,by omega,b0,b1,fun b1' h1 b2 h2 a ha=>q _ _ _ _ b1' b2 a (.inr (.inr (.inl ⟨e,rfl,rfl⟩))) rfl rfl h1 h2 ha⟩
 clear hkk kk
 have e3:t=3:=by omega
 refine vseq_goK fun kk hkk=>?_
 simp only [R,S_y]
 refine ⟨m,rfl,n0,by omega,b0,b1,by omega,hkk _ _ ?_⟩
 clear hkk kk
 refine vseq_goK fun kk hkk=>?_
 simp only [R]
 refine ite2 (fun c0=>?_) (fun c0=>hkk _ _ ?_)
 ·exact fun b1' h1 b2 h2 a ha=>q _ _ _ _ b1' b2 a (.inr (.inr (.inr (.inl ⟨e3,c0,rfl,rfl⟩)))) rfl rfl h1 h2 ha
 clear hkk kk
 have nn:=M.cg_nonneg (b:=true) (M.mto b n).reverse m n
 have l0:=Int.emod_nonneg d c0
 have l1:=Int.emod_lt_of_pos d (show 0<M.cg true (M.mto b n).reverse m n by omega)
 obtain ⟨wy,wr⟩:=M.wat_ok _ (M.pf b n) m n _ (Nat.le_refl _) (M.pf_pos n0) (M.pf_fall b n) l0 l1
 have told:Told t b n m d _ _:=.inr (.inr (.inr (.inr ⟨e3,c0,rfl,rfl⟩)))
 generalize hcg:M.cg true (M.mto b n).reverse m n=cg at *
 generalize hL:M.wat (M.mto b n).reverse m n (d % cg)=L at *
 have wl:WayL b n L:=⟨fun x hx=>by have:=(M.mem_mto n0).mp (List.mem_reverse.mp (wy.mem x hx));exact ⟨this.1,this.2.2⟩,wy.fall,wy.sum⟩
 have ll:=wy.len
 refine vseq_goK fun kk hkk=>?_
 simp only [R,S_t]
 refine ⟨by omega,_,m,rfl,rfl,n0,by omega,b0,b1,by omega,l0,by rw [hcg];exact l1,?_⟩
 rw [hL]
 refine hkk _ _ ?_
 clear hkk kk
 refine vseq_goK fun kk hkk=>?_
 simp only [R]
 refine hkk _ _ ?_
 clear hkk kk
 refine vseq_goK fun kk hkk=>?_
 simp only [R,S_k]
 refine ⟨L,rfl,n0,by omega,b0,b1,wl,by omega,hkk _ _ ?_⟩
 clear hkk kk
 simp only [R]
 exact ⟨_,flaVs_ints L,fun b1' h1 b2 h2 a ha=>q _ _ _ _ b1' b2 a told (flaVs_ints L) rfl h1 h2 ha⟩
end
end K32
namespace M
theorem sg_le (ps:List Int) (n:Int) {B:Int} (hB:1<=B) (hl:((ps.length:Nat):Int)<=B):∀K:Nat,sg ps n K<=((K:Int)+1) * B ^ K
 | 0=>by
  have h:=cg_le ps 0 n
  rw [Int.pow_zero] at h
  show cg true ps 0 n<=_
  simp
  omega
 | K+1=>by
  have ih:=sg_le ps n hB hl K
  have h:=cg_le ps (K+1) n
  have hp:∀k:Nat,((ps.length:Nat):Int) ^ k<=B ^ k:=fun k=>by
   induction k with
   | zero=>simp
   | succ k ih=>
    rw [Int.pow_succ,Int.pow_succ]
    exact Int.mul_le_mul ih hl (by omega) (Int.le_trans (by decide) (one_le_pow' hB k))
  have h2:=hp (K+1)
  have h3:B ^ K<=B ^ (K+1):=by
   rw [Int.pow_succ]
   have:=Int.mul_le_mul_of_nonneg_left hB (show 0<=B ^ K from Int.le_trans (by decide) (one_le_pow' hB K))
   omega
  have h4:=Int.mul_le_mul_of_nonneg_left h3 (show 0<=(K:Int)+1 by omega)
  show sg ps n K+cg true ps (K+1) n<=_
  have e:(((K+1:Nat):Int)+1) * B ^ (K+1)=((K:Int)+1) * B ^ (K+1)+B ^ (K+1):=by
   rw [Int.add_mul,Int.one_mul];simp
  omega
where one_le_pow' {B:Int} (hB:1<=B):∀k:Nat,(1:Int)<=B ^ k
 | 0=>by simp
 | k+1=>by
  rw [Int.pow_succ]
  have:=one_le_pow' hB k
  have:=Int.mul_le_mul this hB (by decide) (by omega)
  omega
end M
namespace K32
open PySem L2
section
variable {P:Program} {w:World} {K:PySem.W.Frag} {mg:Str->Option Value} {base:Heap}
theorem pn_big {i:Int} (h:i.natAbs<10 ^ 300):PN 0 301 (.int i):=by
 refine ⟨rfl,?_,?_,Nat.le_refl _,?_⟩
 ·have h2:i.natAbs.log2<1920:=by
   by_cases z:i.natAbs=0
   ·rw [z];decide
   ·exact (Nat.log2_lt z).mpr (Nat.lt_of_lt_of_le h (by decide +kernel))
  simp only [toP,PyData.showable,decide_eq_true h2]
 ·simp only [toP,PyData.hasDict]
 ·have e:(PyData.shown (.int i)).length=(toString i).length:=by
   simp only [PyData.shown]
   exact PySem.ofString_length _
  simp only [toP,e]
  exact int_text_length_le10 (k:=300) (by decide) h
theorem pn_true:PN 0 301 (.bl true):=⟨rfl,by simp only [toP,PyData.showable],by simp only [toP,PyData.hasDict],Nat.le_refl _,by simp only [toP,PyData.shown];decide⟩
def Fl (x:D):Prop:=(∃i:Int,x=.int i/\i.natAbs<10 ^ 300)\/x=.bl true
theorem Fl.pn {x:D} (h:Fl x):PN 0 301 x:=by
 rcases h with ⟨i,rfl,h⟩|rfl
 ·exact pn_big h
 ·exact pn_true
theorem Fl.dn {x:D} (h:Fl x):DN 0 x:=by
 rcases h with ⟨i,rfl,h⟩|rfl
 ·exact dn_int i
 ·exact ⟨rfl,by simp only [toP,PyData.canLay0],Nat.le_refl _⟩
theorem fl_int {i:Int} (h0:0<=i) (h:i<10 ^ 300):Fl (.int i):=.inl ⟨i,rfl,by omega⟩
theorem fl_small {i:Int} (h0:0<=i) (h:i<=1000):Fl (.int i):=fl_int h0 (Int.lt_of_le_of_lt h (by decide +kernel))
theorem no_false {L:List Int} (h:L≠[0]):deqv (.lst (L.map D.int)) (.lst [.bl false])=false:=by
 match L,h with
 | [],_=>simp [deqv,toP,toPs,PyData.eqv,PyData.eqvAll]
 | [x],h=>
  have:x≠0:=fun z=>h (by rw [z])
  simp [deqv,toP,toPs,PyData.eqv,PyData.eqvAll,this]
 | x::y::r,_=>simp [deqv,toP,toPs,PyData.eqv,PyData.eqvAll]
structure TOk (xs ys:List D):Prop where
 x:∀z∈xs,Fl z
 y:∀z∈ys,Fl z
 lx:xs.length<=100
 ly:ys.length<=100
 fx:∃vs,flaVs xs=some vs
 fy:∃vs,flaVs ys=some vs
 no:deqv (.lst (ys.drop 1)) (.lst [.bl false])=false
theorem TOk.show {xs ys:List D} (h:TOk xs ys):ShowOk [.lst xs,.lst ys]:=by
 have h1:=h.lx
 have h2:=h.ly
 refine PN.okL (k:=2) (n:=100000) ((pn_lst (k:=1) (n:=31000) fun z hz=>?_).mono (by decide) (show (31000+2) * 2+3<=100000 by decide)) (by decide) (by decide)
 rcases List.mem_cons.mp hz with rfl|hz
 ·exact (pn_lst (k:=0) (n:=301) fun y hy=>(h.x y hy).pn).mono (by decide) (by omega)
 ·rw [List.mem_singleton.mp hz]
  exact (pn_lst (k:=0) (n:=301) fun y hy=>(h.y y hy).pn).mono (by decide) (by omega)
theorem TOk.dok {xs ys:List D} (h:TOk xs ys):DOk (.lst (ys.drop 1)):=(dn_lst (k:=0) fun z hz=>(h.y z (List.mem_of_mem_drop hz)).dn).dok (by decide)
theorem dok_f:DOk (.lst [.bl false]):=⟨by simp [L2.plain,L2.plains],by simp [toP,toPs,PyData.canLay0,PyData.canLayAll0],by simp [toP,toPs,PyData.depth,PyData.depthAll]⟩
theorem ints_fl {L:List Int} (h:∀x∈L,0<=x/\x<=1000):∀z∈L.map D.int,Fl z:=fun z hz=>by
 obtain ⟨x,hx,rfl⟩:=List.mem_map.mp hz
 exact fl_small (h x hx).1 (h x hx).2
theorem hv_up (b:Int) (N:Nat) (m:Int):(hv b N m).Pairwise (·<·):=by
 unfold hv
 refine List.Pairwise.sublist List.filter_sublist ?_
 rw [List.pairwise_map]
 exact List.pairwise_lt_range.imp fun h=>by omega
theorem hv_mem {b:Int} {N:Nat} {m x:Int} (h:x∈hv b N m):0<=x/\x<=N:=by
 unfold hv at h
 obtain ⟨i,hi,rfl⟩:=List.mem_map.mp (List.mem_filter.mp h).1
 have:=List.mem_range.mp hi
 omega
theorem hv_len (b:Int) (N:Nat) (m:Int):(hv b N m).length<=N+1:=by
 unfold hv
 refine Nat.le_trans (List.length_filter_le _ _) ?_
 rw [List.length_map,List.length_range];exact Nat.le_refl _
theorem mto_few {b n:Int} (n0:0<=n) (n1:n<=60):(M.mto b n).length<=60:=by
 have h1:=M.mto_len b n
 have h2:∀k:Nat,M.cntN b k<=k:=fun k=>by
  induction k with
  | zero=>exact Int.le_refl _
  | succ k ih=>rw [M.cnt_snoc];split<;>omega
 have h3:M.cnt b n<=(n.toNat:Int):=h2 _
 omega
theorem cgt_big {b n:Int} {m:Nat} (n0:0<=n) (n1:n<=60) (m1:m<=12):M.cg true (M.mto b n).reverse m n<10 ^ 300:=by
 have h:=M.cg_le (M.mto b n).reverse m n
 have l:=mto_few (b:=b) n0 n1
 have h2:(((M.mto b n).reverse.length:Nat):Int) ^ m<=60 ^ m:=by
  have:∀(a:Int) (k:Nat),0<=a->a<=60->0<=a ^ k/\a ^ k<=60 ^ k:=fun a k a0 a1=>by
   induction k with
   | zero=>simp
   | succ k ih=>
    rw [Int.pow_succ,Int.pow_succ]
    exact ⟨Int.mul_nonneg ih.1 a0,Int.mul_le_mul ih.2 a1 a0 (Int.le_trans ih.1 ih.2)⟩
  exact (this _ m (by omega) (by rw [List.length_reverse];omega)).2
 have h3:=M.pow_le (b:=60) (by decide) m1
 have h4:(60:Int) ^ 12<10 ^ 300:=by decide +kernel
 omega
theorem cgf_big {b n:Int} (n0:0<=n) (n1:n<=60):M.cg false (M.mto b n).reverse 0 n<10 ^ 300:=by
 have l:=mto_few (b:=b) n0 n1
 rw [M.all_sg (M.mto b n).reverse n 60 (by omega)]
 have h:=M.sg_le (M.mto b n).reverse n (B:=60) (by decide) (by rw [List.length_reverse];omega) 60
 have h4:(((60:Nat):Int)+1) * (60:Int) ^ 60<10 ^ 300:=by decide +kernel
 omega
theorem Told.ok {t b n:Int} {m:Nat} {d:Int} {xs ys:List D} (h:Told t b n m d xs ys) (b0:2<=b) (n0:0<=n) (n1:n<=60) (m1:m<=12):TOk xs ys:=by
 have z0:deqv (.lst (([]:List D).drop 1)) (.lst [.bl false])=false:=no_false (L:=[]) (by simp)
 have lg:∀i:Int,0<=i->i<=60->M.nd b i<=6:=fun i h0 h1=>M.nd_log b0 6 h0 (Int.lt_of_le_of_lt h1 (by decide))
 rcases h with ⟨_,L,g,rfl,rfl⟩|⟨_,rfl,k,k1,k2,rfl⟩|⟨_,rfl,rfl⟩|⟨_,_,rfl,rfl⟩|⟨_,c,rfl,rfl⟩
 ·have w:=g.way
  have ms:=mem_le_sum fun x hx=>(w.mem x hx).1
  rw [w.sum] at ms
  refine ⟨ints_fl fun x hx=>?_,fun z hz=>(nomatch hz),?_,by simp,⟨_,flaVs_ints L⟩,⟨_,rfl⟩,z0⟩
  ·have:=ms x hx
   have:=(w.mem x hx).1
   omega
  ·rw [List.length_map,w.len]
   have:=lg n n0 n1
   omega
 ·have tl:=tabl_len b n.toNat
  have tm:∀x∈M.tabl b n.toNat,0<=x/\x<=6:=fun x hx=>by
   unfold M.tabl at hx
   obtain ⟨i,hi,rfl⟩:=List.mem_map.mp hx
   have:=List.mem_range.mp hi
   have:=lg (i:Int) (by omega) (by omega)
   omega
  have hl:=hv_len b n.toNat k
  refine ⟨ints_fl fun x hx=>⟨(tm x hx).1,by have:=(tm x hx).2;omega⟩,ints_fl fun x hx=>⟨(hv_mem hx).1,by have:=(hv_mem hx).2;omega⟩,by rw [List.length_map];omega,by rw [List.length_map];omega,⟨_,flaVs_ints _⟩,⟨_,flaVs_ints _⟩,?_⟩
  rw [<-List.map_drop]
  refine no_false fun z=>?_
  have up:=hv_up b n.toNat k
  have mm:∀x∈hv b n.toNat k,0<=x:=fun x hx=>(hv_mem hx).1
  generalize hv b n.toNat k=hs at *
  match hs,z with
  | x::y::r,z=>
   have e:y=0:=by
    have:y::r=[0]:=z
    injection this
   have h1:=(List.pairwise_cons.mp up).1 y (by simp)
   have h2:=mm x (by simp)
   omega
 ·have c1:=M.cg_nonneg (b:=true) (M.mto b n).reverse m n
  have c2:=M.cg_nonneg (b:=false) (M.mto b n).reverse 0 n
  have c3:ctw b n.toNat m<=61:=by
   unfold ctw
   refine Nat.le_trans List.countP_le_length ?_
   rw [List.length_drop,tabl_len];omega
  refine ⟨fun z hz=>?_,fun z hz=>(nomatch hz),by simp,by simp,⟨_,rfl⟩,⟨_,rfl⟩,z0⟩
  simp only [List.mem_cons,List.not_mem_nil,or_false] at hz
  rcases hz with rfl|rfl|rfl
  ·exact fl_int c1 (cgt_big n0 n1 m1)
  ·exact fl_int c2 (cgf_big n0 n1)
  ·exact fl_small (by omega) (by omega)
 ·exact ⟨fun z hz=>(nomatch hz),fun z hz=>(nomatch hz),by simp,by simp,⟨_,rfl⟩,⟨_,rfl⟩,z0⟩
 ·have nn:=M.cg_nonneg (b:=true) (M.mto b n).reverse m n
  have l0:=Int.emod_nonneg d c
  have l1:=Int.emod_lt_of_pos d (show 0<M.cg true (M.mto b n).reverse m n by omega)
  obtain ⟨wy,wr⟩:=M.wat_ok _ (M.pf b n) m n _ (Nat.le_refl _) (M.pf_pos n0) (M.pf_fall b n) l0 l1
  have bg:=cgt_big (b:=b) n0 n1 m1
  refine ⟨ints_fl fun x hx=>?_,fun z hz=>?_,by rw [List.length_map,wy.len];omega,by simp,⟨_,flaVs_ints _⟩,⟨_,rfl⟩,by simp [deqv,toP,toPs,PyData.eqv,PyData.eqvAll]⟩
  ·have:=(M.mem_mto n0).mp (List.mem_reverse.mp (wy.mem x hx))
   omega
  ·simp only [List.mem_cons,List.not_mem_nil,or_false] at hz
   rcases hz with rfl|rfl
   ·rw [wr];exact fl_int l0 (by omega)
   ·exact .inr rfl
end
section
variable {P:Program} {w:World} {K:PySem.W.Frag} {mg:Str->Option Value} {base:Heap}
def badP (x:D):Prop:=∃a b,isTy "int" x=some a/\isTy "bool" x=some b/\((a && !b)=true->∃i:Int,x=.int i/\i<0)
def X_t (cs:XA):XSp:=fun as Cl=>∃(n b:Int) (k:Nat) (x:D),as=[.d (.int n),.d (.int b),.d (.int k),.d x]/\2<=b/\b<=36/\badP x/\Cl=cs.NoPlace
theorem okX_t (T:Txt mg) {cs:XA} (TX:XT K mg cs) (Df:A_t K mg) (D_a:A_a K mg) (D_b:A_b K mg):FnOk P w K mg base (CXX P w) 3 Df.f Df.fd ["number","base","many","place"] (spX K (X_t cs)):=by
 have G_a:=ok_a (P:=P) (w:=w) (base:=base) T D_a D_b
 have G_b:=ok_b (P:=P) (w:=w) (base:=base) T D_b
 refine Df.F.okX sc_t (fun as Cl h=>?_) (fun cdv A outer s H E C as Cl XE hK hr h hXE lk lr=>?_)
 ·obtain ⟨_,_,_,_,rfl,_⟩:=h;exact ⟨rfl,alld [_,_,_,_]⟩
 have hu:=hr.units
 obtain ⟨n,b,k,x,rfl,b0,b1,⟨a,c,h1,h2,h3⟩,rfl⟩:=h
 subst hXE
 refine ⟨_,(s_s (s_H (q_fz (n_call hK D_a G_a (hr.mono (by first|decide|omega)) (a_cons (q_var (pv 1)) a_nil)))) (s_cut (s_if (PW.pt (w_or (t_not (t_val (q_fz (n_call hK D_b G_b (hr.mono (by first|decide|omega)) (a_cons (q_var (pv 3)) a_nil))))) (w_or1 (t_lt (q_var (pv 3)) (q_c pe_int (fun _=>.int _)))))) (s_one (s_L TX.x_NoPlace rfl lr (a_cons (q_c pe_str (fun _=>.str _)) a_nil))) s_nil))),?_⟩
 simp only [Q,S_a,S_b]
 refine ⟨b0,b1,a,h1,c,h2,?_⟩
 by_cases ac:(a && !c)=true
 ·obtain ⟨i,rfl,i0⟩:=h3 ac
  rw [if_neg (by rw [ac];decide)]
  exact ⟨i,rfl,by rw [if_pos i0];trivial⟩
 ·rw [if_pos (by simpa using ac)];trivial
def X_k (cs:XA):XSp:=fun as Cl=>∃(n b:Int) (L:List Int),as=[.d (.int n),.d (.int b),.d (.lst (L.map D.int))]/\0<=n/\n<=2000/\2<=b/\b<=36/\wgI b L n n=false/\Cl=cs.NoWay
theorem okX_k (T:Txt mg) {cs:XA} (TX:XT K mg cs) (Df:A_k K mg) (D_a:A_a K mg) (D_b:A_b K mg) (D_x:A_x K mg) (D_g:A_g K mg) (D_h:A_h K mg):FnOk P w K mg base (CXX P w) 6 Df.f Df.fd ["number","base","thing"] (spX K (X_k cs)):=by
 have G_a:=ok_a (P:=P) (w:=w) (base:=base) T D_a D_b
 have G_x:=ok_x (P:=P) (w:=w) (base:=base) T D_x D_b D_a D_g D_h
 refine Df.F.okX sc_k (fun as Cl h=>?_) (fun cdv A outer s H E C as Cl XE hK hr h hXE lk lr=>?_)
 ·obtain ⟨_,_,_,rfl,_⟩:=h;exact ⟨rfl,alld [_,_,_]⟩
 have hu:=hr.units
 obtain ⟨n,b,L,rfl,n0,n1,b0,b1,hx,rfl⟩:=h
 subst hXE
 refine ⟨_,(s_s (s_H (q_fz (n_call hK D_a G_a (hr.mono (by first|decide|omega)) (a_cons (q_var (pv 1)) a_nil)))) (s_cut (s_if (t_not (t_val (q_fz (n_call hK D_x G_x (hr.mono (by first|decide|omega)) (a_cons (q_var (pv 0)) (a_cons (q_var (pv 1)) (a_cons (q_var (pv 2)) a_nil))))))) (s_one (s_L TX.x_NoWay rfl lr (a_cons (q_c pe_str (fun _=>.str _)) a_nil))) s_nil))),?_⟩
 simp only [Q,S_a,S_x,hx]
 exact ⟨b0,b1,L,rfl,n0,n1,b0,b1,by rw [hx];trivial⟩
def X_o (cs:XA):XSp:=fun as Cl=>∃n x:D,as=[.d n,.d x]/\notB x/\Cl=cs.NoBase
theorem okX_o (T:Txt mg) {cs:XA} (TX:XT K mg cs) (Df:A_o K mg) (D_a:A_a K mg) (D_b:A_b K mg):FnOk P w K mg base (CXX P w) 3 Df.f Df.fd ["bound","base"] (spX K (X_o cs)):=by
 have GX_a:FnOk P w K mg base (CXX P w) 2 D_a.f D_a.fd ["thing"] (spX K (X_a cs)):=okX_a T TX D_a D_b
 refine Df.F.okX sc_o (fun as Cl h=>?_) (fun cdv A outer s H E C as Cl XE hK hr h hXE lk lr=>?_)
 ·obtain ⟨_,_,rfl,_⟩:=h;exact ⟨rfl,alld [_,_]⟩
 have hu:=hr.units
 obtain ⟨n,x,rfl,hb,rfl⟩:=h
 subst hXE
 refine ⟨_,(s_cut (s_H (q_fz (n_callX hK D_a GX_a (hr.mono (by first|decide|omega)) lk (a_cons (q_var (pv 1)) a_nil))))),?_⟩
 simp only [Q,X_a]
 exact hb
end
abbrev s_r:Stmt:=top 45
abbrev A_r (K:PySem.W.Frag) (mg:Str->Option Value):=DefAt K mg "_law_refused" s_r ["world","turn"]
theorem sc_r:FnScope ["world","turn","base","number","many","drawn","caught"] ["world","turn"] (defScope s_r):=⟨rfl,rfl,rfl,by decide +kernel,rfl,by decide +kernel,by decide +kernel⟩
section
variable {P:Program} {w:World} {K:PySem.W.Frag} {mg:Str->Option Value} {base:Heap}
theorem bad_neg {i:Int} (h:i<0):badP (.int i):=⟨true,false,rfl,rfl,fun _=>⟨i,rfl,h⟩⟩
def S_r:PSp:=fun as R=>∃(b n:Int) (m:Nat) (d t:Int),as=[.d (.tup [.int b,.int n,.int m,.int d]),.d (.int t)]/\2<=b/\b<=36/\0<=n/\n<=60/\0<=d/\0<=t/\R (.rd (.bl true)) as
theorem ok_r (T:Txt mg) {cs:XA} (TX:XT K mg cs) (Df:A_r K mg) (D_b:A_b K mg) (D_a:A_a K mg) (D_p:A_p K mg) (D_d:A_d K mg) (D_e:A_e K mg) (D_g:A_g K mg) (D_c:A_c K mg) (D_q:A_q K mg) (D_v:A_v K mg) (D_m:A_m K mg) (D_f:A_f K mg) (D_n:A_n K mg) (D_t:A_t K mg) (D_h:A_h K mg) (D_x:A_x K mg) (D_k:A_k K mg) (D_C:A_C K mg) (D_o:A_o K mg):FnOk P w K mg base CX0 7 Df.f Df.fd ["world","turn"] (spOf K S_r):=by
 refine Df.F.okP sc_r (fun as R h=>?_) (fun cdv A outer s H E C as R hK hr h=>?_)
 ·obtain ⟨_,_,_,_,_,rfl,_⟩:=h;rfl
 have hu:=hr.units
 have GX_t:FnOk P w K mg base (CXX P w) 3 D_t.f D_t.fd ["number","base","many","place"] (spX K (X_t cs)):=okX_t T TX D_t D_a D_b
 have GX_k:FnOk P w K mg base (CXX P w) 6 D_k.f D_k.fd ["number","base","thing"] (spX K (X_k cs)):=okX_k T TX D_k D_a D_b D_x D_g D_h
 have GX_o:FnOk P w K mg base (CXX P w) 3 D_o.f D_o.fd ["bound","base"] (spX K (X_o cs)):=okX_o T TX D_o D_a D_b
 obtain ⟨b,n,m,d,t,rfl,b0,b1,n0,n1,d0,t0,q⟩:=h
 refine ⟨_,(s_s (s_asg (q_var (pv 0)) (g_tup (n:=4) hK rfl (gs_cons (g_name (i:=2) sc_r.nd rfl (by simp only [L2.QL])) (gs_cons (g_name (i:=3) sc_r.nd rfl (by simp only [L2.QL])) (gs_cons (g_name (i:=4) sc_r.nd rfl (by simp only [L2.QL])) (gs_cons (g_name (i:=5) sc_r.nd rfl (by simp only [L2.QL])) gs_nil))))))
    (s_s (s_set (i:=6) sc_r.nd rfl (by simp only [L2.QL]) (q_c pe_bl (fun _=>.bl _)))
    (s_s (s_O TX.x_NoBase TX.x_NoPlace TX.x_NoWay (fun F0 pins E XE lk=>(s_one (s_if (t_eq hK hu (q_mod (q_var (pv 1)) (q_c pe_int (fun _=>.int _))) (q_c pe_int (fun _=>.int _))) (s_one (s_H (q_fz (n_callX hK D_t GX_t (hr.mono (by first|decide|omega)) lk (a_cons (q_var (pv 3)) (a_cons (q_var (pv 2)) (a_cons (q_var (pv 4)) (a_cons (q_sub (q_neg (q_c pe_int (fun _=>.int _))) (q_var (pv 5))) a_nil)))))))) (s_one (s_if (t_eq hK hu (q_mod (q_var (pv 1)) (q_c pe_int (fun _=>.int _))) (q_c pe_int (fun _=>.int _))) (s_one (s_H (q_fz (n_callX hK D_k GX_k (hr.mono (by first|decide|omega)) lk (a_cons (q_var (pv 3)) (a_cons (q_var (pv 2)) (a_cons (q_fz (n_lst (a_cons (q_var (pv 3)) (a_cons (q_c pe_int (fun _=>.int _)) a_nil)))) a_nil))))))) (s_one (s_H (q_fz (n_callX hK D_o GX_o (hr.mono (by first|decide|omega)) lk (a_cons (q_var (pv 3)) (a_cons (q_ix hK (q_fz (n_lst (a_cons (q_c pe_int (fun _=>.int _)) (a_cons (q_c pe_int (fun _=>.int _)) (a_cons (q_c pe_int (fun _=>.int _)) (a_cons (q_c pe_non (fun _=>.non)) a_nil)))))) (q_mod (q_var (pv 5)) (q_c pe_int (fun _=>.int _))) (fun _ _=>rfl)) a_nil))))))))))) (fun F0 pins A=>(s_one (s_set (i:=6) sc_r.nd rfl (by simp only [L2.QL]) (q_c pe_bl (fun _=>.bl _))))))
    (s_one (s_ret (n_val (q_var (pv 6)))))))),?_⟩
 refine seq_goK fun kk hkk=>?_
 simp only [R]
 refine hkk _ ?_
 clear hkk kk
 refine seq_goK fun kk hkk=>?_
 simp only [R]
 refine hkk _ ?_
 clear hkk kk
 refine seq_goK fun kk hkk=>?_
 simp only [R,X_t,X_k,X_o]
 have sub:∀x,x=cs.NoBase\/x=cs.NoPlace\/x=cs.NoWay->∃k1,PySem.W.subIn K (.ref x) (.ref cs.NoBase)=some k1/\∃k2,PySem.W.subIn K (.ref x) (.ref cs.NoPlace)=some k2/\∃k3,PySem.W.subIn K (.ref x) (.ref cs.NoWay)=some k3/\(k1 || k2 || k3)=true:=fun x hx=>by
  rcases hx with rfl|rfl|rfl
  ·exact ⟨_,TX.u_NoBase_NoBase,_,TX.u_NoBase_NoPlace,_,TX.u_NoBase_NoWay,rfl⟩
  ·exact ⟨_,TX.u_NoPlace_NoBase,_,TX.u_NoPlace_NoPlace,_,TX.u_NoPlace_NoWay,rfl⟩
  ·exact ⟨_,TX.u_NoWay_NoBase,_,TX.u_NoWay_NoPlace,_,TX.u_NoWay_NoWay,rfl⟩
 have fin:kk [some (.d (.tup [.int b,.int n,.int m,.int d])),some (.d (.int t)),some (.d (.int b)),some (.d (.int n)),some (.d (.int m)),some (.d (.int d)),some (.d (.bl true))]:=by
  refine hkk _ ?_
  simp only [Q]
  exact q
 have e:wgI b [n,1] n n=false:=by
  unfold wgI
  split
  ·unfold wgI
   rw [if_neg (by rw [Int.sub_self];split<;>omega)]
  ·rfl
 refine ite2 (fun _=>⟨_,⟨m,rfl,b0,b1,bad_neg (by omega),rfl⟩,sub _ (.inr (.inl rfl)),fin⟩) (fun _=>ite2 (fun _=>⟨_,⟨[n,1],rfl,n0,by omega,b0,b1,e,rfl⟩,sub _ (.inr (.inr rfl)),fin⟩) (fun _=>?_))
 ·have h0:=Int.emod_nonneg d (show (4:Int)≠0 by decide)
  have h1:=Int.emod_lt_of_pos d (show (0:Int)<4 by decide)
  have:d % 4=0\/d % 4=1\/d % 4=2\/d % 4=3:=by omega
  have nb:∀i:Int,¬(2<=i/\i<=36)->notB (.int i):=fun i hi=>⟨true,false,rfl,rfl,fun _=>⟨i,rfl,hi⟩⟩
  rcases this with e|e|e|e<;>rw [e]
  ·exact ⟨.int 0,rfl,nb 0 (by omega),sub _ (.inl rfl),fin⟩
  ·exact ⟨.int 1,rfl,nb 1 (by omega),sub _ (.inl rfl),fin⟩
  ·exact ⟨.int 37,rfl,nb 37 (by omega),sub _ (.inl rfl),fin⟩
  ·exact ⟨.non,rfl,⟨false,false,rfl,rfl,fun z=>by cases z⟩,sub _ (.inl rfl),fin⟩
end
abbrev s_G:Stmt:=top 41
abbrev A_G (K:PySem.W.Frag) (mg:Str->Option Value):=DefAt K mg "_law_base" s_G ["hand"]
theorem sc_G:FnScope ["hand","way"] ["hand"] (defScope s_G):=⟨rfl,rfl,rfl,by decide +kernel,rfl,by decide +kernel,by decide +kernel⟩
abbrev s_A:Stmt:=top 40
abbrev A_A (K:PySem.W.Frag) (mg:Str->Option Value):=DefAt K mg "_law_cells" s_A ["script","many"]
theorem sc_A:FnScope ["script","many"] ["script","many"] (defScope s_A):=⟨rfl,rfl,rfl,by decide +kernel,rfl,by decide +kernel,by decide +kernel⟩
section
variable {P:Program} {w:World} {K:PySem.W.Frag} {mg:Str->Option Value} {base:Heap}
def S_G:PSp:=fun as R=>∃(h:List D),as=[.bor h]/\HandD h/\∀(b:Int) h',2<=b->b<=36->HandD h'->R (.rd (.int b)) [.bor h']
theorem ok_G (T:Txt mg) (Df:A_G K mg) (D_i:A_i K mg):FnOk P w K mg base CX0 2 Df.f Df.fd ["hand"] (spOf K S_G):=by
 have G_i:=ok_i (P:=P) (w:=w) (base:=base) T D_i
 refine Df.F.okP sc_G (fun as R h=>?_) (fun cdv A outer s H E C as R hK hr h=>?_)
 ·obtain ⟨_,rfl,_⟩:=h;rfl
 have hu:=hr.units
 obtain ⟨h,rfl,hh,q⟩:=h
 refine ⟨_,(s_s (s_set (i:=1) sc_G.nd rfl (by simp only [L2.QL]) (q_fz (n_call hK D_i G_i (hr.mono (by first|decide|omega)) (a_cons (q_var (pv 0)) (a_cons (q_c pe_int (fun _=>.int _)) a_nil)))))
    (s_one (s_ret (n_val (q_ix hK (q_fz (n_lst (a_cons (q_add (q_c pe_int (fun _=>.int _)) (q_var (pv 1))) (a_cons (q_c pe_int (fun _=>.int _)) a_nil)))) (cb_int rfl T.z_int (a_cons (q_eq hK hu (q_var (pv 1)) (q_c pe_int (fun _=>.int _))) a_nil)) (fun _ _=>rfl)))))),?_⟩;simp only [Q,and_assoc,S_i]
 refine ⟨hh,fun g h1 g0 g1 hh1=>?_⟩
 by_cases c:g=35
 ·simp only [Q,c]
  exact q _ _ (by decide) (by decide) hh1
 ·simp only [Q,c]
  exact q _ _ (by omega) (by omega) hh1
def S_A:PSp:=fun as R=>∃(ns:List Int) (m:Int),as=[.d (.scr ns),.d (.int m)]/\ns.length<=63/\1<=m/\m<=63/\∀(cs:List Int),cs.length<=63->R (.ro (pairsOf (cs.map D.int))) as
theorem ok_A (T:Txt mg) (Df:A_A K mg):FnOk P w K mg base CX0 1 Df.f Df.fd ["script","many"] (spOf K S_A):=by
 refine Df.F.okP sc_A (fun as R h=>?_) (fun cdv A outer s H E C as R hK hr h=>?_)
 ·obtain ⟨_,_,rfl,_⟩:=h;rfl
 have hu:=hr.units
 obtain ⟨ns,m,rfl,hl,m0,m1,q⟩:=h
 refine ⟨_,(s_one (s_ret (n_listEn hK rfl (q_fz (n_cat (q_fz (n_sl hK (q_var (pv 0)) o_none (o_some (q_var (pv 1))))) (q_fz (n_rep (q_fz (n_lst (a_cons (q_c pe_int (fun _=>.int _)) a_nil))) (cb_int rfl T.z_int (a_cons (q_eq hK hu (q_var (pv 0)) (q_fz (n_lst a_nil))) a_nil)))))) rfl T.z_list rfl T.z_enumerate))),?_⟩;simp only [Q,and_assoc]
 rw [cut_takeI _ (by omega),<-List.map_take]
 by_cases hn:ns=[]
 ·subst hn
  simp only [Q]
  exact ⟨by decide,by simp,by simpa using q [0] (by decide)⟩
 ·have e:(if decide (ns=[])=true then (1:Int) else 0)=0:=by rw [decide_eq_false hn];rfl
  simp only [Q,e,hn]
  have lt:(List.take m.toNat ns).length<=63:=by rw [List.length_take];omega
  exact ⟨by simp,by simp;omega,by simpa using q _ lt⟩
end
abbrev s_u:Stmt:=top 42
abbrev A_u (K:PySem.W.Frag) (mg:Str->Option Value):=DefAt K mg "_law_number" s_u ["hand","base","most"]
theorem sc_u:FnScope ["hand","base","most","way","power_v","turn","some"] ["hand","base","most"] (defScope s_u):=⟨rfl,rfl,rfl,by decide +kernel,rfl,by decide +kernel,by decide +kernel⟩
section
variable {P:Program} {w:World} {K:PySem.W.Frag} {mg:Str->Option Value} {base:Heap}
def S_u:PSp:=fun as R=>∃(h:List D) (b most:Int),as=[.bor h,.d (.int b),.d (.int most)]/\HandD h/\2<=b/\b<=36/\41<=most/\most<=10 ^ 6/\∀(n:Int) h',0<=n->n<=most->HandD h'->R (.rd (.int n)) [.bor h',.d (.int b),.d (.int most)]
theorem lit3' {x y z:D} {g:Int} (h0:0<=g) (h1:g<3):∃v,atI [x,y,z] g=some v/\(v=x\/v=y\/v=z):=by
 have:g=0\/g=1\/g=2:=by omega
 rcases this with rfl|rfl|rfl
 ·exact ⟨x,rfl,.inl rfl⟩
 ·exact ⟨y,rfl,.inr (.inl rfl)⟩
 ·exact ⟨z,rfl,.inr (.inr rfl)⟩
theorem ok_u (T:Txt mg) (Df:A_u K mg) (D_i:A_i K mg):FnOk P w K mg base CX0 2 Df.f Df.fd ["hand","base","most"] (spOf K S_u):=by
 have G_i:=ok_i (P:=P) (w:=w) (base:=base) T D_i
 refine Df.F.okP sc_u (fun as R h=>?_) (fun cdv A outer s H E C as R hK hr h=>?_)
 ·obtain ⟨_,_,_,rfl,_⟩:=h;rfl
 have hu:=hr.units
 obtain ⟨h,b,most,rfl,hh,b0,b1,m0,m1,q⟩:=h
 refine ⟨_,(s_s (s_set (i:=3) sc_u.nd rfl (by simp only [L2.QL]) (q_fz (n_call hK D_i G_i (hr.mono (by first|decide|omega)) (a_cons (q_var (pv 0)) (a_cons (q_c pe_int (fun _=>.int _)) a_nil)))))
    (s_s (s_if (t_lt (q_var (pv 3)) (q_c pe_int (fun _=>.int _))) (s_one (s_ret (n_call hK D_i G_i (hr.mono (by first|decide|omega)) (a_cons (q_var (pv 0)) (a_cons (q_ix hK (q_fz (n_lst (a_cons (q_c pe_int (fun _=>.int _)) (a_cons (q_add (q_var (pv 2)) (q_c pe_int (fun _=>.int _))) (a_cons (q_add (q_var (pv 2)) (q_c pe_int (fun _=>.int _))) a_nil))))) (q_var (pv 3)) (fun _ _=>rfl)) a_nil))))) s_nil)
    (s_s (s_set (i:=4) sc_u.nd rfl (by simp only [L2.QL]) (q_c pe_int (fun _=>.int _)))
    (s_s (s_for PassesOwn.never rfl (i_range1 rfl T.z_range (a_cons (q_fz (n_call hK D_i G_i (hr.mono (by first|decide|omega)) (a_cons (q_var (pv 0)) (a_cons (q_c pe_int (fun _=>.int _)) a_nil)))) a_nil)) (g_name (i:=5) sc_u.nd rfl (by simp only [L2.QL])) (s_one (s_if (t_le (q_mul (q_var (pv 4)) (q_var (pv 1))) (q_var (pv 2))) (s_one (s_set (i:=4) sc_u.nd rfl (by simp only [L2.QL]) (q_mul (q_var (pv 4)) (q_var (pv 1))))) s_nil)))
    (s_s (s_if (t_eq hK hu (q_var (pv 3)) (q_c pe_int (fun _=>.int _))) (s_one (s_ret (n_val (q_var (pv 2))))) s_nil)
    (s_s (s_set (i:=6) sc_u.nd rfl (by simp only [L2.QL]) (q_fz (n_lst (a_cons (q_var (pv 4)) (a_cons (q_mul (q_var (pv 4)) (q_add (q_c pe_int (fun _=>.int _)) (q_fz (n_call hK D_i G_i (hr.mono (by first|decide|omega)) (a_cons (q_var (pv 0)) (a_cons (q_var (pv 1)) a_nil)))))) (a_cons (q_add (q_var (pv 4)) (q_fdiv (q_var (pv 4)) (q_c pe_int (fun _=>.int _)))) a_nil))))))
    (s_one (s_ret (n_val (cb_max rfl rfl T.z_max (a_cons (q_c pe_int (fun _=>.int _)) (a_cons (cb_min rfl rfl T.z_min (a_cons (q_var (pv 2)) (a_cons (q_sub (q_add (q_ix hK (q_var (pv 6)) (q_sub (q_var (pv 3)) (q_c pe_int (fun _=>.int _))) (fun _ _=>rfl)) (q_fz (n_call hK D_i G_i (hr.mono (by first|decide|omega)) (a_cons (q_var (pv 0)) (a_cons (q_c pe_int (fun _=>.int _)) a_nil))))) (q_c pe_int (fun _=>.int _))) a_nil))) a_nil)))))))))))),?_⟩
 refine seq_goP ?_
 simp only [R,S_i]
 refine ⟨hh,fun way h1 w0 w1 hh1=>?_⟩
 by_cases c:way<3
 ·obtain ⟨v,ev,hv⟩:=lit3' (x:=.int 41) (y:=.int (most+1)) (z:=.int (most+1)) w0 c
  refine seq_goP ?_
  simp only [R,c,S_i]
  obtain ⟨e,rfl,e0,e1⟩:∃e:Int,v=.int e/\0<e/\e<=most+1:=by
   rcases hv with rfl|rfl|rfl<;>exact ⟨_,rfl,by omega,by omega⟩
  refine ⟨_,ev,?_⟩
  simp only [R]
  exact ⟨hh1,e0,by omega,fun g h2 g0 g1 hh2=>q _ _ g0 (by omega) hh2⟩
 ·refine seq_goP ?_
  simp only [R,c]
  refine seq_goP ?_
  simp only [R]
  refine seq_cutP (fun p=>∃(h:List D) (pw:Int) (w5:Option D),HandD h/\1<=pw/\pw<=most/\p=[some (.bor h),some (.d (.int b)),some (.d (.int most)),some (.d (.int way)),some (.d (.int pw)),Option.map Sl.d w5,none]) (fun k hk=>?_) ?_
  ·refine for_i ?_
   simp only [R,S_i]
   refine ⟨hh1,fun g h2 g0 g1 hh2=>⟨by omega,by omega,?_⟩⟩
   obtain ⟨I,hI⟩:∃I:Nat->PSt->Prop,I=(fun i p=>∃(pw:Int) (w5:Option D),1<=pw/\pw<=most/\p=[some (.bor h2),some (.d (.int b)),some (.d (.int most)),some (.d (.int way)),some (.d (.int pw)),Option.map Sl.d w5,none]):=⟨_,rfl⟩
   refine ⟨I,by rw [hI];exact ⟨1,none,by decide,by omega,rfl⟩,?_,?_⟩
   ·intro i p hi hp
    rw [hI] at hp
    obtain ⟨pw,w5,p1,p2,rfl⟩:=hp
    have pp:1<=pw * b:=by
     have:=Int.mul_le_mul p1 (show (1:Int)<=b by omega) (by decide) (by omega)
     omega
    simp only [Q]
    refine ⟨.inr ⟨by omega,by omega⟩,ite2 (fun c=>⟨.inr ⟨by omega,by omega⟩,?_⟩) (fun c=>?_)⟩
    ·rw [hI];exact ⟨pw * b,some (.int i),pp,c,rfl⟩
    ·rw [hI];exact ⟨pw,some (.int i),p1,p2,rfl⟩
   ·intro p hp
    rw [hI] at hp
    obtain ⟨pw,w5,p1,p2,rfl⟩:=hp
    exact hk _ ⟨h2,pw,w5,hh2,p1,p2,rfl⟩
  rintro p ⟨h2,pw,w5,hh2,p1,p2,rfl⟩
  by_cases c6:way=6
  ·subst c6
   refine seq_goP ?_
   simp only [R]
   exact q _ _ (by omega) (Int.le_refl _) hh2
  refine seq_goP ?_
  simp only [R,c6]
  refine seq_goP ?_
  simp only [R,S_i]
  refine ⟨hh2,by omega,by omega,fun g h3 g0 g1 hh3=>?_⟩
  obtain ⟨v,ev,hv⟩:=lit3' (x:=.int pw) (y:=.int (pw * (1+g))) (z:=.int (pw+pw / 2)) (show 0<=way - 3 by omega) (by omega)
  simp only [Q,S_i]
  refine ⟨.inr ⟨by omega,by omega⟩,v,ev,hh3,fun g' h4 g0' g1' hh4=>?_⟩
  rcases hv with rfl|rfl|rfl
  all_goals
   refine ⟨_,rfl,q _ _ ?_ ?_ hh4⟩
   ·split<;>(try split)<;>omega
   ·split<;>(try split)<;>omega
end
abbrev s_law:Stmt:=top 46
theorem sc_law:FnScope ["script","k","cell","hand","worlds","j","base","first","turn","at","which","told","written","one"] ["script"] (defScope s_law):=⟨rfl,rfl,rfl,by decide +kernel,rfl,by decide +kernel,by decide +kernel⟩
section
variable {P:Program} {w:World} {K:PySem.W.Frag} {mg:Str->Option Value} {base:Heap}
def S_law:PSp:=fun as R=>∃(ns:List Int),as=[.d (.scr ns)]/\ns.length<=63/\R (.rd (.bl true)) as
theorem pair_at {cs:List Int} {i:Nat} (h:i<(pairsOf (cs.map D.int)).length):∃c:Int,(pairsOf (cs.map D.int)).getD i .non=.tup [.int i,.int c]:=by
 have hi:i<cs.length:=by unfold pairsOf at h;simpa using h
 refine ⟨cs.getD i 0,?_⟩
 unfold pairsOf
 rw [List.getD_eq_getElem?_getD,List.getElem?_map,List.getElem?_range (by simpa using hi)]
 show D.tup [.int (i:Int),(cs.map D.int).getD i .non]=_
 rw [getD_ints hi]
theorem pairs_len {cs:List Int}:(pairsOf (cs.map D.int)).length=cs.length:=by unfold pairsOf;simp
def Wrl (x:D):Prop:=∃(b n:Int) (m:Nat) (d:Int),x=.tup [.int b,.int n,.int m,.int d]/\2<=b/\b<=36/\0<=n/\n<=60/\m<=12/\0<=d
def TellW (x:D) (t:Int) (s:Str):Prop:=∃(b n:Int) (m:Nat) (d:Int) (xs ys:List D),x=.tup [.int b,.int n,.int m,.int d]/\Told t b n m d xs ys/\s=shownL [.lst xs,.lst ys]
theorem TellW.uniq {x:D} {t:Int} {s s':Str} (h:TellW x t s) (h':TellW x t s'):s=s':=by
 obtain ⟨b,n,m,d,xs,ys,rfl,g,rfl⟩:=h
 obtain ⟨b',n',m',d',xs',ys',e,g',rfl⟩:=h'
 simp only [D.tup.injEq,List.cons.injEq,D.int.injEq,and_true] at e
 obtain ⟨rfl,rfl,e3,rfl⟩:=e
 have:m=m':=by omega
 subst this
 obtain ⟨rfl,rfl⟩:=g.uniq g'
 rfl
def Fine (ws:List D) (kvs:List (List Key × V)):Prop:=∀(t w:Int) (v:V),valV kvs [.inl t,.inl w]=some v->∃(x:D) (s:Str),atI ws w=some x/\TellW x t s/\v=.str s
theorem Fine.put {ws:List D} {kvs:List (List Key × V)} (h:Fine ws kvs) {t w:Int} {x:D} {s:Str} (hx:atI ws w=some x) (hs:TellW x t s):Fine ws (putK kvs [.inl t,.inl w] (.str s)):=fun t' w' v hv=>by
 rw [valV_put] at hv
 split at hv
 ·next e=>
  injection e with e1 e2
  injection e1 with e1
  injection e2 with e2
  injection e2 with e2
  subst e1;subst e2
  injection hv with hv
  exact ⟨x,s,hx,hs,hv.symm⟩
 ·exact h t' w' v hv
theorem putK_len {kvs:List (List Key × V)} {k:List Key} {v:V}:(putK kvs k v).length<=kvs.length+1:=by
 unfold putK
 split
 ·rw [List.length_map];omega
 ·rw [List.length_append,List.length_singleton];omega
theorem fla_str {y:D} {s:Str} (h:flaV y=some (.str s)):y=.str s:=by
 cases y<;>first|(cases h;rfl)|cases h
theorem ok_law (T:Txt mg) {cs:XA} (TX:XT K mg cs) (Df:DefAt K mg "law" s_law ["script"]) (D_A:A_A K mg) (D_E:A_E K mg) (D_i:A_i K mg) (D_G:A_G K mg) (D_b:A_b K mg) (D_a:A_a K mg) (D_q:A_q K mg) (D_v:A_v K mg) (D_m:A_m K mg) (D_p:A_p K mg) (D_d:A_d K mg) (D_e:A_e K mg) (D_g:A_g K mg) (D_c:A_c K mg) (D_y:A_y K mg) (D_f:A_f K mg) (D_n:A_n K mg) (D_t:A_t K mg) (D_h:A_h K mg) (D_x:A_x K mg) (D_k:A_k K mg) (D_j:A_j K mg) (D_l:A_l K mg) (D_F:A_F K mg) (D_C:A_C K mg) (D_o:A_o K mg) (D_D:A_D K mg) (D_z:A_z K mg) (D_B:A_B K mg) (D_w:A_w K mg) (D_r:A_r K mg) (D_u:A_u K mg):FnOk P w K mg base CX0 25 Df.f Df.fd ["script"] (spOf K S_law):=by
 have G_A:=ok_A (P:=P) (w:=w) (base:=base) T D_A
 have G_E:=ok_E (P:=P) (w:=w) (base:=base) T D_E
 have G_G:=ok_G (P:=P) (w:=w) (base:=base) T D_G D_i
 have G_i:=ok_i (P:=P) (w:=w) (base:=base) T D_i
 have G_w:=ok_w (P:=P) (w:=w) (base:=base) T D_w D_b D_a D_q D_v D_m D_p D_d D_e D_g D_c D_y D_f D_n D_t D_h D_x D_k D_j D_l D_F D_C D_o D_D D_z D_B
 have G_r:=ok_r (P:=P) (w:=w) (base:=base) T TX D_r D_b D_a D_p D_d D_e D_g D_c D_q D_v D_m D_f D_n D_t D_h D_x D_k D_C D_o
 have G_u:=ok_u (P:=P) (w:=w) (base:=base) T D_u D_i
 refine Df.F.okP sc_law (fun as R h=>?_) (fun cdv A outer s H E C as R hK hr h=>?_)
 ·obtain ⟨_,rfl,_⟩:=h;rfl
 have hu:=hr.units
 obtain ⟨ns,rfl,hl,q⟩:=h
 refine ⟨_,(ss_ofV (v_cons (v_for PassesOwn.never rfl (fun W ok=>(i_list hK (q_fz (n_call hK D_A G_A (hr.mono (by first|decide|omega)) (a_cons (q_var (pv 0)) (a_cons (q_c pe_int (fun _=>.int _)) a_nil)))))) (fun W ok=>(g_tup (n:=2) hK rfl (gs_cons (g_name (i:=1) sc_law.nd rfl (by simp only [L2.QL])) (gs_cons (g_name (i:=2) sc_law.nd rfl (by simp only [L2.QL])) gs_nil)))) (v_cons (v_lift (fun W ok=>(s_setN (i:=3) sc_law.nd rfl (by simp only [L2.QL]) (n_call hK D_E G_E (hr.mono (by first|decide|omega)) (a_cons (q_var (pv 2)) (a_cons (q_var (pv 1)) a_nil))))))
    (v_cons (v_lift (fun W ok=>(s_setN (i:=4) sc_law.nd rfl (by simp only [L2.QL]) (n_lst a_nil))))
    (v_cons (v_lift (fun W ok=>(s_for PassesOwn.never rfl (i_range1 rfl T.z_range (a_cons (q_c pe_int (fun _=>.int _)) a_nil)) (g_name (i:=5) sc_law.nd rfl (by simp only [L2.QL])) (s_s (s_set (i:=6) sc_law.nd rfl (by simp only [L2.QL]) (q_fz (n_call hK D_G G_G (hr.mono (by first|decide|omega)) (a_cons (q_var (pv 3)) a_nil))))
    (s_one (s_H (m_append hK (pv 4) (a_cons (q_tup (a_cons (q_var (pv 6)) (a_cons (q_fz (n_call hK D_u G_u (hr.mono (by first|decide|omega)) (a_cons (q_var (pv 3)) (a_cons (q_var (pv 6)) (a_cons (q_c pe_int (fun _=>.int _)) a_nil))))) (a_cons (q_fz (n_call hK D_i G_i (hr.mono (by first|decide|omega)) (a_cons (q_var (pv 3)) (a_cons (q_c pe_int (fun _=>.int _)) a_nil)))) (a_cons (q_fz (n_call hK D_i G_i (hr.mono (by first|decide|omega)) (a_cons (q_var (pv 3)) (a_cons (q_pow (q_c pe_int (fun _=>.int _)) (q_c pe_int (fun _=>.int _))) a_nil)))) a_nil))))) a_nil))))))))
    (v_cons (v_set (i:=7) sc_law.nd rfl (by simp only [L2.QL]) e_dicT)
    (v_one (v_for PassesOwn.never rfl (fun W ok=>(i_range1 rfl T.z_range (a_cons (q_c pe_int (fun _=>.int _)) a_nil))) (fun W ok=>(g_name (i:=8) sc_law.nd rfl (by simp only [L2.QL]))) (v_cons (v_lift (fun W ok=>(s_set (i:=9) sc_law.nd rfl (by simp only [L2.QL]) (q_fz (n_call hK D_i G_i (hr.mono (by first|decide|omega)) (a_cons (q_var (pv 3)) (a_cons (q_c pe_int (fun _=>.int _)) a_nil)))))))
    (v_cons (v_lift (fun W ok=>(s_set (i:=10) sc_law.nd rfl (by simp only [L2.QL]) (q_fz (n_call hK D_i G_i (hr.mono (by first|decide|omega)) (a_cons (q_var (pv 3)) (a_cons (q_c pe_int (fun _=>.int _)) a_nil)))))))
    (v_cons (v_set (i:=11) sc_law.nd rfl (by simp only [L2.QL]) (v_call hK D_w G_w (hr.mono (by first|decide|omega)) (fun W ok=>(a_cons (q_var (pv 9)) (a_cons (q_ix hK (q_var (pv 4)) (q_var (pv 10)) (fun _ _=>rfl)) a_nil)))))
    (v_cons (v_lift (fun W ok=>(s_set (i:=12) sc_law.nd rfl (by simp only [L2.QL]) (cb_reprV ok hK hr.gd hu rfl T.z_repr (a_cons (q_var (pv 11)) a_nil)))))
    (v_cons (v_lift (fun W ok=>(s_if (PW.pt (w_or (t_ne hK hu (m_getT ok hK hu (q_var (pv 7)) (a_cons (q_tup (a_cons (q_var (pv 9)) (a_cons (q_var (pv 10)) a_nil))) (a_cons (q_var (pv 12)) a_nil))) (q_var (pv 12))) (w_or1 (t_eqD hK hu (q_fz (n_slW ok hK (q_ixW ok hK (q_var (pv 11)) (q_c pe_int (fun _=>.int _)) (fun _ _=>rfl)) (o_some (q_c pe_int (fun _=>.int _))) o_none)) (q_fz (n_lst (a_cons (q_c pe_bl (fun _=>.bl _)) a_nil))))))) (s_one (s_ret (n_val (q_c pe_bl (fun _=>.bl _))))) s_nil)))
    (v_cons (v_putT hu (fun W ok=>(q_var (pv 12))) (fun W ok=>(q_var (pv 7))) (fun W ok=>(q_tup (a_cons (q_var (pv 9)) (a_cons (q_var (pv 10)) a_nil)))))
    (v_cons (v_forH PassesOwn.never rfl hK (fun W ok=>(q_var (pv 11))) (fun W ok=>(g_name (i:=13) sc_law.nd rfl (by simp only [L2.QL]))) (v_cons (v_expr (v_app hK (fun W ok=>(q_var (pv 13))) (fun W ok=>(a_cons (q_neg (q_c pe_int (fun _=>.int _))) a_nil))))
    (v_one (v_expr (v_rev hK (fun W ok=>(q_var (pv 13))))))))
    (v_one (v_lift (fun W ok=>(s_if (t_not (t_val (q_fz (n_call hK D_r G_r (hr.mono (by first|decide|omega)) (a_cons (q_ix hK (q_var (pv 4)) (q_var (pv 10)) (fun _ _=>rfl)) (a_cons (q_var (pv 8)) a_nil)))))) (s_one (s_ret (n_val (q_c pe_bl (fun _=>.bl _))))) s_nil))))))))))))))))))
    (v_one (v_lift (fun W ok=>(s_ret (n_val (q_c pe_bl (fun _=>.bl _))))))))),?_⟩
 show vSeq _ _ _ _ _
 refine vseq_goK fun kk hkk=>?_
 refine vfor_c ?_
 simp only [R,S_A]
 refine ⟨hl,fun cs hc=>?_⟩
 obtain ⟨I,hI⟩:∃I:Nat->Hp->PSt->Prop,I=(fun (i:Nat) (W:Hp) (p:PSt)=>∃w1 w2 w3 w4 w5 w6 w7 w8 w9 wa wb wc wd,p=[some (.d (.scr ns)),Any w1,Any w2,Any w3,Any w4,Any w5,Any w6,Any w7,Any w8,Any w9,Any wa,Any wb,Any wc,Any wd]):=⟨_,rfl⟩
 refine vfor_q (n:=(pairsOf (cs.map D.int)).length) (item:=fun i=>(pairsOf (cs.map D.int)).getD i .non) (p1:=_) (fun Q h=>h) I (by rw [hI];exact ⟨none,none,none,none,none,none,none,none,none,none,none,none,none,rfl⟩) ?_ ?_
 ·intro i W p hi hp
  rw [hI] at hp
  obtain ⟨w1,w2,w3,w4,w5,w6,w7,w8,w9,wa,wb,wc,wd,rfl⟩:=hp
  obtain ⟨c,ec⟩:=pair_at hi
  rw [ec]
  simp only [R]
  refine vseq_goK fun k1 hk1=>?_
  simp only [R,S_E]
  intro h1 hh1
  refine hk1 _ _ ?_
  clear hk1 k1
  refine vseq_goK fun k1 hk1=>?_
  simp only [R]
  refine hk1 _ _ ?_
  clear hk1 k1
  refine vseq_goK fun k1 hk1=>?_
  simp only [R]
  obtain ⟨J,hJ⟩:∃J:Nat->PSt->Prop,J=(fun (j:Nat) p=>∃(h ws:List D) (w5 w6:_),HandD h/\ws.length=j/\(∀x∈ws,Wrl x)/\p=[some (.d (.scr ns)),some (.d (.int i)),some (.d (.int c)),some (.own h),some (.own ws),Any w5,Any w6,Any w7,Any w8,Any w9,Any wa,Any wb,Any wc,Any wd]):=⟨_,rfl⟩
  refine for_q (n:=2) (item:=fun j=>.int j) (p1:=_) (fun Q h=>by simp only [Q];exact h) J (by rw [hJ];exact ⟨h1,[],w5,w6,hh1,rfl,fun x hx=>(nomatch hx),rfl⟩) ?_ ?_
  ·intro j p hj hp
   rw [hJ] at hp
   obtain ⟨h2,ws,w5,w6,hh2,lw,aw,rfl⟩:=hp
   simp only [Q,S_G,S_u,S_i]
   refine ⟨hh2,fun b h3 b0 b1 hh3=>⟨hh3,b0,b1,fun n h4 n0 n1 hh4=>⟨hh4,fun g h5 g0 g1 hh5=>⟨hh5,fun d h6 d0 d1 hh6=>⟨by omega,?_⟩⟩⟩⟩⟩
   obtain ⟨m,rfl⟩:=Int.eq_ofNat_of_zero_le g0
   rw [hJ]
   refine ⟨h6,ws++[.tup [.int b,.int n,.int m,.int d]],some (.inl (.int j)),some (.inl (.int b)),hh6,by rw [List.length_append,List.length_singleton,lw],fun x hx=>?_,rfl⟩
   rcases List.mem_append.mp hx with hx|hx
   ·exact aw x hx
   ·exact ⟨b,n,m,d,List.mem_singleton.mp hx,b0,b1,n0,n1,by omega,d0⟩
  intro p hp
  rw [hJ] at hp
  obtain ⟨h2,ws,w5,w6,hh2,lw,aw,rfl⟩:=hp
  refine hk1 _ _ ?_
  clear hk1 k1
  refine vseq_goK fun k1 hk1=>?_
  simp only [R]
  intro a ha
  refine hk1 _ _ ?_
  clear hk1 k1
  obtain ⟨G,hG⟩:∃G:Nat->Hp->PSt->Prop,G=(fun (u:Nat) (W:Hp) (p:PSt)=>∃(h:List D) (kvs:List (List Key × V)),HandD h/\W a=some (.dT kvs)/\kvs.length<=u/\Fine ws kvs/\∃w8 w9 wa wb wc wd,p=[some (.d (.scr ns)),some (.d (.int i)),some (.d (.int c)),some (.own h),some (.own ws),Any w5,Any w6,some (.d (.atom (.ref a))),Any w8,Any w9,Any wa,Any wb,Any wc,Any wd]):=⟨_,rfl⟩
  refine vfor_q (n:=24) (item:=fun j=>.int j) (p1:=_) (fun Q h=>by simp only [Q];exact h) G (by rw [hG];exact ⟨h2,[],hh2,upd_same,Nat.le_refl _,fun t w v h=>(nomatch h),w8,w9,wa,wb,wc,wd,rfl⟩) ?_ ?_
  ·intro u W p hu24 hp
   rw [hG] at hp
   obtain ⟨h3,kvs,hh3,hW,lk,fi,w8,w9,wa,wb,wc,wd,rfl⟩:=hp
   simp only [R]
   refine vseq_goK fun k1 hk1=>?_
   simp only [R,S_i]
   refine ⟨hh3,fun t h4 t0 t1 hh4=>hk1 _ _ ?_⟩
   clear hk1 k1
   refine vseq_goK fun k1 hk1=>?_
   simp only [R,S_i]
   refine ⟨hh4,fun wh h5 wh0 wh1 hh5=>hk1 _ _ ?_⟩
   clear hk1 k1
   obtain ⟨x,hx,b,n,m,d,ex,b0,b1,n0,n1,m1,d0⟩:∃x,atI ws wh=some x/\Wrl x:=by
    have:wh=0\/wh=1:=by omega
    match ws,lw,aw with
    | [x,y],_,aw=>
     rcases this with rfl|rfl
     ·exact ⟨x,rfl,aw x (by simp)⟩
     ·exact ⟨y,rfl,aw y (by simp)⟩
   subst ex
   refine vseq_goK fun k1 hk1=>?_
   simp only [R,S_w,hx]
   refine ⟨m,rfl,t0,by omega,b0,b1,n0,n1,m1,d0,fun xs ys vs us b1' b2' tl td fx fy e1 e2 e3=>hk1 _ _ ?_⟩
   clear hk1 k1
   have tok:=td.ok b0 n0 n1 m1
   have n1a:a≠b1':=fun z=>by rw [z,e1] at hW;cases hW
   have n21:b2'≠b1':=fun z=>by rw [z,upd_same] at e2;cases e2
   have e2':W b2'=none:=by rw [upd_ne n21] at e2;exact e2
   have n2a:a≠b2':=fun z=>by rw [z,e2'] at hW;cases hW
   have nt2:tl≠b2':=fun z=>by rw [z,upd_same] at e3;cases e3
   have e3':upd W b1' (.lst vs) tl=none:=by rw [upd_ne nt2] at e3;exact e3
   have nt1:tl≠b1':=fun z=>by rw [z,upd_same] at e3';cases e3'
   have e3'':W tl=none:=by rw [upd_ne nt1] at e3';exact e3'
   have nta:a≠tl:=fun z=>by rw [z,e3''] at hW;cases hW
   obtain ⟨W4,hW4⟩:∃W4,W4=upd (upd (upd W b1' (.lst vs)) b2' (.lst us)) tl (.lst [.ref b1',.ref b2']):=⟨_,rfl⟩
   have g1:W4 tl=some (.lst [.ref b1',.ref b2']):=by rw [hW4];exact upd_same
   have g2:W4 b1'=some (.lst vs):=by rw [hW4,upd_ne (Ne.symm nt1),upd_ne (Ne.symm n21)];exact upd_same
   have g3:W4 b2'=some (.lst us):=by rw [hW4,upd_ne (Ne.symm nt2)];exact upd_same
   have g4:W4 a=some (.dT kvs):=by rw [hW4,upd_ne nta,upd_ne n2a,upd_ne n1a];exact hW
   rw [<-hW4]
   clear hW4 e1 e2 e3 e2' e3' e3'' hW
   refine vseq_goK fun k1 hk1=>?_
   simp only [R]
   refine ⟨b1',b2',g1,xs,vs,g2,ys,us,g3,fx,fy,tok.show,hk1 _ _ ?_⟩
   clear hk1 k1
   have tell:TellW (.tup [.int b,.int n,.int m,.int d]) t (shownL [.lst xs,.lst ys]):=⟨b,n,m,d,xs,ys,rfl,td,rfl⟩
   generalize shownL [.lst xs,.lst ys]=tx at *
   refine vseq_goK fun k1 hk1=>?_
   simp only [R]
   refine ⟨⟨kvs,g4⟩,kvs,g4,fun v hv=>?_,fun y hy=>?_⟩
   ·obtain ⟨x,s,_,_,rfl⟩:=fi t wh v hv
    exact ⟨.str s,rfl⟩
   have hy:flaV y=some ((valV kvs [Sum.inl t,Sum.inl wh]).getD (V.str tx)):=hy
   have ey:y=.str tx:=by
    cases hv:valV kvs [Sum.inl t,Sum.inl wh] with
    | none=>rw [hv] at hy;exact fla_str hy
    | some v=>
     obtain ⟨x',s,hx',ht,rfl⟩:=fi t wh v hv
     rw [hx] at hx'
     cases hx'
     rw [ht.uniq tell] at hv
     rw [hv] at hy
     exact fla_str hy
   subst ey
   have ec:cut ys (some 1) none=ys.drop 1:=cut_drop ys 1
   refine ⟨.str _ _,?_⟩
   rw [deq_self,if_neg (by simp)]
   refine ⟨_,g1,.ref b2',rfl,b2',rfl,ys,us,g3,fy,?_⟩
   rw [ec]
   refine ⟨tok.dok,dok_f,?_⟩
   rw [tok.no,if_neg (by simp)]
   refine hk1 _ _ ?_
   clear hk1 k1 hy
   refine vseq_goK fun k1 hk1=>?_
   simp only [R]
   refine ⟨kvs,g4,by rw [sizeLine_eq];omega,hk1 _ _ ?_⟩
   clear hk1 k1
   have fi':=fi.put hx tell
   have ln':=putK_len (kvs:=kvs) (k:=[Sum.inl t,Sum.inl wh]) (v:=.str tx)
   generalize putK kvs [Sum.inl t,Sum.inl wh] (.str tx)=kvs' at *
   refine vseq_goK fun k1 hk1=>?_
   have lx:=(flaVs_ok (K:=K) (F:=fun _=>none) fx).length
   have ly:=(flaVs_ok (K:=K) (F:=fun _=>none) fy).length
   have lx1:=tok.lx
   have ly1:=tok.ly
   obtain ⟨Z,hZ⟩:∃Z:Nat->Hp->PSt->Prop,Z=(fun (j:Nat) (W:Hp) (p:PSt)=>W tl=some (.lst [.ref b1',.ref b2'])/\W a=some (.dT kvs')/\(∃vs,W b1'=some (.lst vs)/\vs.length<=100+j)/\(∃us,W b2'=some (.lst us)/\us.length<=100+j)/\∃wd,p=[some (.d (.scr ns)),some (.d (.int i)),some (.d (.int c)),some (.own h5),some (.own ws),Any w5,Any w6,some (.d (.atom (.ref a))),some (.d (.int u)),some (.d (.int t)),some (.d (.int wh)),some (.d (.atom (.ref tl))),some (.d (.str tx)),Any wd]):=⟨_,rfl⟩
   unfold vForH
   simp only [R]
   refine ⟨[.ref b1',.ref b2'],by rw [upd_ne (Ne.symm nta)];exact g1,Z,?_,fun j W2 p2 h=>by rw [hZ] at h;exact h.1,?_,?_⟩
   ·rw [hZ]
    exact ⟨by rw [upd_ne (Ne.symm nta)];exact g1,upd_same,⟨vs,by rw [upd_ne (Ne.symm n1a)];exact g2,by omega⟩,⟨us,by rw [upd_ne (Ne.symm n2a)];exact g3,by omega⟩,wd,rfl⟩
   ·intro j v W2 p2 hv hp
    rw [hZ] at hp
    obtain ⟨z1,z2,⟨vs2,z3,z4⟩,⟨us2,z5,z6⟩,wd,rfl⟩:=hp
    have hj:j<2:=(List.getElem?_eq_some_iff.mp hv).1
    have cs:v=.ref b1'\/v=.ref b2':=by
     have:j=0\/j=1:=by omega
     rcases this with rfl|rfl
     ·exact .inl (Option.some.inj hv).symm
     ·exact .inr (Option.some.inj hv).symm
    clear hv
    rcases cs with rfl|rfl
    ·simp only [R]
     refine vseq_goK fun k2 hk2=>?_
     simp only [R]
     refine ⟨vs2,z3,by omega,fun v hv=>hk2 _ _ ?_⟩
     simp only [R]
     refine ⟨_,upd_same,?_⟩
     rw [hZ]
     exact ⟨by rw [upd_ne nt1,upd_ne nt1];exact z1,by rw [upd_ne n1a,upd_ne n1a];exact z2,⟨_,upd_same,by rw [List.length_reverse,List.length_append,List.length_singleton];omega⟩,⟨us2,by rw [upd_ne n21,upd_ne n21];exact z5,by omega⟩,some (.inl (.atom (.ref b1'))),rfl⟩
    ·simp only [R]
     refine vseq_goK fun k2 hk2=>?_
     simp only [R]
     refine ⟨us2,z5,by omega,fun v hv=>hk2 _ _ ?_⟩
     simp only [R]
     refine ⟨_,upd_same,?_⟩
     rw [hZ]
     exact ⟨by rw [upd_ne nt2,upd_ne nt2];exact z1,by rw [upd_ne n2a,upd_ne n2a];exact z2,⟨vs2,by rw [upd_ne (Ne.symm n21),upd_ne (Ne.symm n21)];exact z3,by omega⟩,⟨_,upd_same,by rw [List.length_reverse,List.length_append,List.length_singleton];omega⟩,some (.inl (.atom (.ref b2'))),rfl⟩
   intro W2 p2 hp
   rw [hZ] at hp
   obtain ⟨z1,z2,_,_,wd,rfl⟩:=hp
   refine hk1 _ _ ?_
   simp only [Q,S_r,hx]
   refine ⟨m,rfl,b0,b1,n0,n1,d0,by omega,?_⟩
   rw [hG]
   exact ⟨h5,kvs',hh5,z2,by omega,fi',some (.inl (.int u)),some (.inl (.int t)),some (.inl (.int wh)),some (.inl (.atom (.ref tl))),some (.inl (.str tx)),wd,rfl⟩
  intro W p hp
  rw [hG] at hp
  obtain ⟨h3,kvs,hh3,hW,lk,fi,w8,w9,wa,wb,wc,wd,rfl⟩:=hp
  show I (i+1) W _
  rw [hI]
  exact ⟨some (.inl (.int i)),some (.inl (.int c)),some (.inr h3),some (.inr ws),w5,w6,some (.inl (.atom (.ref a))),w8,w9,wa,wb,wc,wd,rfl⟩
 intro W p hp
 rw [hI] at hp
 obtain ⟨w1,w2,w3,w4,w5,w6,w7,w8,w9,wa,wb,wc,wd,rfl⟩:=hp
 refine hkk _ _ ?_
 simp only [Q]
 exact q
end
theorem sp_start {K:PySem.W.Frag} {H:Hp} {a:Addr} {ns:List Int} {E:XK} (hl:ns.length<=63) (hS:SqL K H a (ns.map V.int)):spOf K S_law [.ref a] H (fun v _=>v=.bl true) E:=
 ⟨[.d (.scr ns)],H,fun r _=>r=.rd (.bl true),Same.refl _,args_scr hS,⟨ns,rfl,hl,rfl⟩,fun r as' v F' H' po hr=>by
  subst hr
  have h:=po.res
  cases h
  rfl⟩
@[elab_as_elim] theorem len1 {α:Type} {C:List α->Prop} (us:List α) (hl:us.length=1) (h:∀x0:α,C [x0]):C us:=match us,hl,h with | [x0],_,h=>h x0
@[elab_as_elim] theorem len2 {α:Type} {C:List α->Prop} (us:List α) (hl:us.length=2) (h:∀x0 x1:α,C [x0,x1]):C us:=match us,hl,h with | [x0,x1],_,h=>h x0 x1
@[elab_as_elim] theorem len3 {α:Type} {C:List α->Prop} (us:List α) (hl:us.length=3) (h:∀x0 x1 x2:α,C [x0,x1,x2]):C us:=match us,hl,h with | [x0,x1,x2],_,h=>h x0 x1 x2
@[elab_as_elim] theorem len4 {α:Type} {C:List α->Prop} (us:List α) (hl:us.length=4) (h:∀x0 x1 x2 x3:α,C [x0,x1,x2,x3]):C us:=match us,hl,h with | [x0,x1,x2,x3],_,h=>h x0 x1 x2 x3
theorem all_mk {l:PySem.W.OpenLaw} {w:World} {K:PySem.W.Frag} {h:Heap} {mg:Str->Option Value} {fa f1 f2 f3 f4 f5 f6 f7 f8 f9 f10 f11 f12 f13 f14 f15 f16 f17 f18 f19 f20 f21 f22 f23 f24 f25 f26 f27 f28 f29 f30 f31 f32 f33:Addr} (X:K.In h) (G:h.Ns mainGlobals mg) (hfa:mg "law"=some (.ref fa))
  {od1 an1:Option Addr} {sl1:Array (Option Value)} {oc1 kV1 dc1 pm1 cd1 ct1:Value} {od2 an2:Option Addr} {sl2:Array (Option Value)} {oc2 kV2 dc2 pm2 cd2 ct2:Value} {od3 an3:Option Addr} {sl3:Array (Option Value)} {oc3 kV3 dc3 pm3 cd3 ct3:Value} {od4 an4:Option Addr} {sl4:Array (Option Value)} {oc4 kV4 dc4 pm4 cd4 ct4:Value} {od5 an5:Option Addr} {sl5:Array (Option Value)} {oc5 kV5 dc5 pm5 cd5 ct5:Value} {od6 an6:Option Addr} {sl6:Array (Option Value)} {oc6 kV6 dc6 pm6 cd6 ct6:Value} {od7 an7:Option Addr} {sl7:Array (Option Value)} {oc7 kV7 dc7 pm7 cd7 ct7:Value} {od8 an8:Option Addr} {sl8:Array (Option Value)} {oc8 kV8 dc8 pm8 cd8 ct8:Value} {od9 an9:Option Addr} {sl9:Array (Option Value)} {oc9 kV9 dc9 pm9 cd9 ct9:Value} {od10 an10:Option Addr} {sl10:Array (Option Value)} {oc10 kV10 dc10 pm10 cd10 ct10:Value} {od11 an11:Option Addr} {sl11:Array (Option Value)} {oc11 kV11 dc11 pm11 cd11 ct11:Value} {od12 an12:Option Addr} {sl12:Array (Option Value)} {oc12 kV12 dc12 pm12 cd12 ct12:Value} {od13 an13:Option Addr} {sl13:Array (Option Value)} {oc13 kV13 dc13 pm13 cd13 ct13:Value} {od14 an14:Option Addr} {sl14:Array (Option Value)} {oc14 kV14 dc14 pm14 cd14 ct14:Value} {od15 an15:Option Addr} {sl15:Array (Option Value)} {oc15 kV15 dc15 pm15 cd15 ct15:Value} {od16 an16:Option Addr} {sl16:Array (Option Value)} {oc16 kV16 dc16 pm16 cd16 ct16:Value} {od17 an17:Option Addr} {sl17:Array (Option Value)} {oc17 kV17 dc17 pm17 cd17 ct17:Value} {od18 an18:Option Addr} {sl18:Array (Option Value)} {oc18 kV18 dc18 pm18 cd18 ct18:Value} {od19 an19:Option Addr} {sl19:Array (Option Value)} {oc19 kV19 dc19 pm19 cd19 ct19:Value} {od20 an20:Option Addr} {sl20:Array (Option Value)} {oc20 kV20 dc20 pm20 cd20 ct20:Value} {od21 an21:Option Addr} {sl21:Array (Option Value)} {oc21 kV21 dc21 pm21 cd21 ct21:Value} {od22 an22:Option Addr} {sl22:Array (Option Value)} {oc22 kV22 dc22 pm22 cd22 ct22:Value} {od23 an23:Option Addr} {sl23:Array (Option Value)} {oc23 kV23 dc23 pm23 cd23 ct23:Value} {od24 an24:Option Addr} {sl24:Array (Option Value)} {oc24 kV24 dc24 pm24 cd24 ct24:Value} {od25 an25:Option Addr} {sl25:Array (Option Value)} {oc25 kV25 dc25 pm25 cd25 ct25:Value} {od26 an26:Option Addr} {sl26:Array (Option Value)} {oc26 kV26 dc26 pm26 cd26 ct26:Value} {od27 an27:Option Addr} {sl27:Array (Option Value)} {oc27 kV27 dc27 pm27 cd27 ct27:Value} {od28 an28:Option Addr} {sl28:Array (Option Value)} {oc28 kV28 dc28 pm28 cd28 ct28:Value} {od29 an29:Option Addr} {sl29:Array (Option Value)} {oc29 kV29 dc29 pm29 cd29 ct29:Value} {od30 an30:Option Addr} {sl30:Array (Option Value)} {oc30 kV30 dc30 pm30 cd30 ct30:Value} {od31 an31:Option Addr} {sl31:Array (Option Value)} {oc31 kV31 dc31 pm31 cd31 ct31:Value} {od32 an32:Option Addr} {sl32:Array (Option Value)} {oc32 kV32 dc32 pm32 cd32 ct32:Value} {od33 an33:Option Addr} {sl33:Array (Option Value)} {oc33 kV33 dc33 pm33 cd33 ct33:Value} {t_LEAST_BASE:Tok} {t_GREATEST_BASE:Tok} {X_MirrorError N_MirrorError:Addr} {nm_MirrorError q_MirrorError:Str} {bs_MirrorError sub_MirrorError:List Value} {hd_MirrorError ab_MirrorError:Bool} {sn_MirrorError:List Str} {col_MirrorError:Option Bool} {dd_MirrorError od_MirrorError:Option Addr} {x0_MirrorError x1_MirrorError x2_MirrorError x3_MirrorError x5_MirrorError:Option Value} {oc_MirrorError:Value} {es_MirrorError:Array DictEntry} {ep_MirrorError:Nat} {sl_MirrorError:Array (Option Value)} {X_NoBase N_NoBase:Addr} {nm_NoBase q_NoBase:Str} {bs_NoBase sub_NoBase:List Value} {hd_NoBase ab_NoBase:Bool} {sn_NoBase:List Str} {col_NoBase:Option Bool} {dd_NoBase od_NoBase:Option Addr} {x0_NoBase x1_NoBase x2_NoBase x3_NoBase x5_NoBase:Option Value} {oc_NoBase:Value} {es_NoBase:Array DictEntry} {ep_NoBase:Nat} {sl_NoBase:Array (Option Value)} {X_NoPlace N_NoPlace:Addr} {nm_NoPlace q_NoPlace:Str} {bs_NoPlace sub_NoPlace:List Value} {hd_NoPlace ab_NoPlace:Bool} {sn_NoPlace:List Str} {col_NoPlace:Option Bool} {dd_NoPlace od_NoPlace:Option Addr} {x0_NoPlace x1_NoPlace x2_NoPlace x3_NoPlace x5_NoPlace:Option Value} {oc_NoPlace:Value} {es_NoPlace:Array DictEntry} {ep_NoPlace:Nat} {sl_NoPlace:Array (Option Value)} {X_NoWay N_NoWay:Addr} {nm_NoWay q_NoWay:Str} {bs_NoWay sub_NoWay:List Value} {hd_NoWay ab_NoWay:Bool} {sn_NoWay:List Str} {col_NoWay:Option Bool} {dd_NoWay od_NoWay:Option Addr} {x0_NoWay x1_NoWay x2_NoWay x3_NoWay x5_NoWay:Option Value} {oc_NoWay:Value} {es_NoWay:Array DictEntry} {ep_NoWay:Nat} {sl_NoWay:Array (Option Value)}
  (a1:PySem.W.nsIn K mainGlobals "_law_cells"=some (some (.ref f1))) (l1:K.lookup f1=some ⟨oc1,od1,.func (PySem.W.fnOf "_law_cells" "_law_cells" (defArgs s_A) (defBody s_A) (defScope s_A) .none kV1 dc1 pm1 an1 cd1 ct1),sl1⟩) (c1:PySem.W.codeIn K cd1 "_law_cells"=true) (k1:PySem.W.keepIn K (.ref f1)=true)
  (a2:PySem.W.nsIn K mainGlobals "_law_hand"=some (some (.ref f2))) (l2:K.lookup f2=some ⟨oc2,od2,.func (PySem.W.fnOf "_law_hand" "_law_hand" (defArgs s_E) (defBody s_E) (defScope s_E) .none kV2 dc2 pm2 an2 cd2 ct2),sl2⟩) (c2:PySem.W.codeIn K cd2 "_law_hand"=true) (k2:PySem.W.keepIn K (.ref f2)=true)
  (a3:PySem.W.nsIn K mainGlobals "_law_draw"=some (some (.ref f3))) (l3:K.lookup f3=some ⟨oc3,od3,.func (PySem.W.fnOf "_law_draw" "_law_draw" (defArgs s_i) (defBody s_i) (defScope s_i) .none kV3 dc3 pm3 an3 cd3 ct3),sl3⟩) (c3:PySem.W.codeIn K cd3 "_law_draw"=true) (k3:PySem.W.keepIn K (.ref f3)=true)
  (a4:PySem.W.nsIn K mainGlobals "_law_base"=some (some (.ref f4))) (l4:K.lookup f4=some ⟨oc4,od4,.func (PySem.W.fnOf "_law_base" "_law_base" (defArgs s_G) (defBody s_G) (defScope s_G) .none kV4 dc4 pm4 an4 cd4 ct4),sl4⟩) (c4:PySem.W.codeIn K cd4 "_law_base"=true) (k4:PySem.W.keepIn K (.ref f4)=true)
  (a5:PySem.W.nsIn K mainGlobals "is_whole"=some (some (.ref f5))) (l5:K.lookup f5=some ⟨oc5,od5,.func (PySem.W.fnOf "is_whole" "is_whole" (defArgs s_b) (defBody s_b) (defScope s_b) .none kV5 dc5 pm5 an5 cd5 ct5),sl5⟩) (c5:PySem.W.codeIn K cd5 "is_whole"=true) (k5:PySem.W.keepIn K (.ref f5)=true)
  (a6:PySem.W.nsIn K mainGlobals "check_base"=some (some (.ref f6))) (l6:K.lookup f6=some ⟨oc6,od6,.func (PySem.W.fnOf "check_base" "check_base" (defArgs s_a) (defBody s_a) (defScope s_a) .none kV6 dc6 pm6 an6 cd6 ct6),sl6⟩) (c6:PySem.W.codeIn K cd6 "check_base"=true) (k6:PySem.W.keepIn K (.ref f6)=true)
  (a7:PySem.W.nsIn K mainGlobals "totals"=some (some (.ref f7))) (l7:K.lookup f7=some ⟨oc7,od7,.func (PySem.W.fnOf "totals" "totals" (defArgs s_q) (defBody s_q) (defScope s_q) .none kV7 dc7 pm7 an7 cd7 ct7),sl7⟩) (c7:PySem.W.codeIn K cd7 "totals"=true) (k7:PySem.W.keepIn K (.ref f7)=true)
  (a8:PySem.W.nsIn K mainGlobals "put_in"=some (some (.ref f8))) (l8:K.lookup f8=some ⟨oc8,od8,.func (PySem.W.fnOf "put_in" "put_in" (defArgs s_v) (defBody s_v) (defScope s_v) .none kV8 dc8 pm8 an8 cd8 ct8),sl8⟩) (c8:PySem.W.codeIn K cd8 "put_in"=true) (k8:PySem.W.keepIn K (.ref f8)=true)
  (a9:PySem.W.nsIn K mainGlobals "rows_of"=some (some (.ref f9))) (l9:K.lookup f9=some ⟨oc9,od9,.func (PySem.W.fnOf "rows_of" "rows_of" (defArgs s_m) (defBody s_m) (defScope s_m) .none kV9 dc9 pm9 an9 cd9 ct9),sl9⟩) (c9:PySem.W.codeIn K cd9 "rows_of"=true) (k9:PySem.W.keepIn K (.ref f9)=true)
  (a10:PySem.W.nsIn K mainGlobals "power"=some (some (.ref f10))) (l10:K.lookup f10=some ⟨oc10,od10,.func (PySem.W.fnOf "power" "power" (defArgs s_p) (defBody s_p) (defScope s_p) .none kV10 dc10 pm10 an10 cd10 ct10),sl10⟩) (c10:PySem.W.codeIn K cd10 "power"=true) (k10:PySem.W.keepIn K (.ref f10)=true)
  (a11:PySem.W.nsIn K mainGlobals "least_front"=some (some (.ref f11))) (l11:K.lookup f11=some ⟨oc11,od11,.func (PySem.W.fnOf "least_front" "least_front" (defArgs s_d) (defBody s_d) (defScope s_d) .none kV11 dc11 pm11 an11 cd11 ct11),sl11⟩) (c11:PySem.W.codeIn K cd11 "least_front"=true) (k11:PySem.W.keepIn K (.ref f11)=true)
  (a12:PySem.W.nsIn K mainGlobals "from_front"=some (some (.ref f12))) (l12:K.lookup f12=some ⟨oc12,od12,.func (PySem.W.fnOf "from_front" "from_front" (defArgs s_e) (defBody s_e) (defScope s_e) .none kV12 dc12 pm12 an12 cd12 ct12),sl12⟩) (c12:PySem.W.codeIn K cd12 "from_front"=true) (k12:PySem.W.keepIn K (.ref f12)=true)
  (a13:PySem.W.nsIn K mainGlobals "figures"=some (some (.ref f13))) (l13:K.lookup f13=some ⟨oc13,od13,.func (PySem.W.fnOf "figures" "figures" (defArgs s_g) (defBody s_g) (defScope s_g) .none kV13 dc13 pm13 an13 cd13 ct13),sl13⟩) (c13:PySem.W.codeIn K cd13 "figures"=true) (k13:PySem.W.keepIn K (.ref f13)=true)
  (a14:PySem.W.nsIn K mainGlobals "mirrored_to"=some (some (.ref f14))) (l14:K.lookup f14=some ⟨oc14,od14,.func (PySem.W.fnOf "mirrored_to" "mirrored_to" (defArgs s_c) (defBody s_c) (defScope s_c) .none kV14 dc14 pm14 an14 cd14 ct14),sl14⟩) (c14:PySem.W.codeIn K cd14 "mirrored_to"=true) (k14:PySem.W.keepIn K (.ref f14)=true)
  (a15:PySem.W.nsIn K mainGlobals "many_ways"=some (some (.ref f15))) (l15:K.lookup f15=some ⟨oc15,od15,.func (PySem.W.fnOf "many_ways" "many_ways" (defArgs s_y) (defBody s_y) (defScope s_y) .none kV15 dc15 pm15 an15 cd15 ct15),sl15⟩) (c15:PySem.W.codeIn K cd15 "many_ways"=true) (k15:PySem.W.keepIn K (.ref f15)=true)
  (a16:PySem.W.nsIn K mainGlobals "many_with_first"=some (some (.ref f16))) (l16:K.lookup f16=some ⟨oc16,od16,.func (PySem.W.fnOf "many_with_first" "many_with_first" (defArgs s_f) (defBody s_f) (defScope s_f) .none kV16 dc16 pm16 an16 cd16 ct16),sl16⟩) (c16:PySem.W.codeIn K cd16 "many_with_first"=true) (k16:PySem.W.keepIn K (.ref f16)=true)
  (a17:PySem.W.nsIn K mainGlobals "take_out"=some (some (.ref f17))) (l17:K.lookup f17=some ⟨oc17,od17,.func (PySem.W.fnOf "take_out" "take_out" (defArgs s_n) (defBody s_n) (defScope s_n) .none kV17 dc17 pm17 an17 cd17 ct17),sl17⟩) (c17:PySem.W.codeIn K cd17 "take_out"=true) (k17:PySem.W.keepIn K (.ref f17)=true)
  (a18:PySem.W.nsIn K mainGlobals "way_at"=some (some (.ref f18))) (l18:K.lookup f18=some ⟨oc18,od18,.func (PySem.W.fnOf "way_at" "way_at" (defArgs s_t) (defBody s_t) (defScope s_t) .none kV18 dc18 pm18 an18 cd18 ct18),sl18⟩) (c18:PySem.W.codeIn K cd18 "way_at"=true) (k18:PySem.W.keepIn K (.ref f18)=true)
  (a19:PySem.W.nsIn K mainGlobals "is_mirrored"=some (some (.ref f19))) (l19:K.lookup f19=some ⟨oc19,od19,.func (PySem.W.fnOf "is_mirrored" "is_mirrored" (defArgs s_h) (defBody s_h) (defScope s_h) .none kV19 dc19 pm19 an19 cd19 ct19),sl19⟩) (c19:PySem.W.codeIn K cd19 "is_mirrored"=true) (k19:PySem.W.keepIn K (.ref f19)=true)
  (a20:PySem.W.nsIn K mainGlobals "is_way"=some (some (.ref f20))) (l20:K.lookup f20=some ⟨oc20,od20,.func (PySem.W.fnOf "is_way" "is_way" (defArgs s_x) (defBody s_x) (defScope s_x) .none kV20 dc20 pm20 an20 cd20 ct20),sl20⟩) (c20:PySem.W.codeIn K cd20 "is_way"=true) (k20:PySem.W.keepIn K (.ref f20)=true)
  (a21:PySem.W.nsIn K mainGlobals "way_place"=some (some (.ref f21))) (l21:K.lookup f21=some ⟨oc21,od21,.func (PySem.W.fnOf "way_place" "way_place" (defArgs s_k) (defBody s_k) (defScope s_k) .none kV21 dc21 pm21 an21 cd21 ct21),sl21⟩) (c21:PySem.W.codeIn K cd21 "way_place"=true) (k21:PySem.W.keepIn K (.ref f21)=true)
  (a22:PySem.W.nsIn K mainGlobals "greatest_pair"=some (some (.ref f22))) (l22:K.lookup f22=some ⟨oc22,od22,.func (PySem.W.fnOf "greatest_pair" "greatest_pair" (defArgs s_j) (defBody s_j) (defScope s_j) .none kV22 dc22 pm22 an22 cd22 ct22),sl22⟩) (c22:PySem.W.codeIn K cd22 "greatest_pair"=true) (k22:PySem.W.keepIn K (.ref f22)=true)
  (a23:PySem.W.nsIn K mainGlobals "greatest_way"=some (some (.ref f23))) (l23:K.lookup f23=some ⟨oc23,od23,.func (PySem.W.fnOf "greatest_way" "greatest_way" (defArgs s_l) (defBody s_l) (defScope s_l) .none kV23 dc23 pm23 an23 cd23 ct23),sl23⟩) (c23:PySem.W.codeIn K cd23 "greatest_way"=true) (k23:PySem.W.keepIn K (.ref f23)=true)
  (a24:PySem.W.nsIn K mainGlobals "fewest"=some (some (.ref f24))) (l24:K.lookup f24=some ⟨oc24,od24,.func (PySem.W.fnOf "fewest" "fewest" (defArgs s_F) (defBody s_F) (defScope s_F) .none kV24 dc24 pm24 an24 cd24 ct24),sl24⟩) (c24:PySem.W.codeIn K cd24 "fewest"=true) (k24:PySem.W.keepIn K (.ref f24)=true)
  (a25:PySem.W.nsIn K mainGlobals "needs"=some (some (.ref f25))) (l25:K.lookup f25=some ⟨oc25,od25,.func (PySem.W.fnOf "needs" "needs" (defArgs s_C) (defBody s_C) (defScope s_C) .none kV25 dc25 pm25 an25 cd25 ct25),sl25⟩) (c25:PySem.W.codeIn K cd25 "needs"=true) (k25:PySem.W.keepIn K (.ref f25)=true)
  (a26:PySem.W.nsIn K mainGlobals "table"=some (some (.ref f26))) (l26:K.lookup f26=some ⟨oc26,od26,.func (PySem.W.fnOf "table" "table" (defArgs s_o) (defBody s_o) (defScope s_o) .none kV26 dc26 pm26 an26 cd26 ct26),sl26⟩) (c26:PySem.W.codeIn K cd26 "table"=true) (k26:PySem.W.keepIn K (.ref f26)=true)
  (a27:PySem.W.nsIn K mainGlobals "hardest"=some (some (.ref f27))) (l27:K.lookup f27=some ⟨oc27,od27,.func (PySem.W.fnOf "hardest" "hardest" (defArgs s_D) (defBody s_D) (defScope s_D) .none kV27 dc27 pm27 an27 cd27 ct27),sl27⟩) (c27:PySem.W.codeIn K cd27 "hardest"=true) (k27:PySem.W.keepIn K (.ref f27)=true)
  (a28:PySem.W.nsIn K mainGlobals "all_ways"=some (some (.ref f28))) (l28:K.lookup f28=some ⟨oc28,od28,.func (PySem.W.fnOf "all_ways" "all_ways" (defArgs s_z) (defBody s_z) (defScope s_z) .none kV28 dc28 pm28 an28 cd28 ct28),sl28⟩) (c28:PySem.W.codeIn K cd28 "all_ways"=true) (k28:PySem.W.keepIn K (.ref f28)=true)
  (a29:PySem.W.nsIn K mainGlobals "how_many"=some (some (.ref f29))) (l29:K.lookup f29=some ⟨oc29,od29,.func (PySem.W.fnOf "how_many" "how_many" (defArgs s_B) (defBody s_B) (defScope s_B) .none kV29 dc29 pm29 an29 cd29 ct29),sl29⟩) (c29:PySem.W.codeIn K cd29 "how_many"=true) (k29:PySem.W.keepIn K (.ref f29)=true)
  (a30:PySem.W.nsIn K mainGlobals "_law_asked"=some (some (.ref f30))) (l30:K.lookup f30=some ⟨oc30,od30,.func (PySem.W.fnOf "_law_asked" "_law_asked" (defArgs s_w) (defBody s_w) (defScope s_w) .none kV30 dc30 pm30 an30 cd30 ct30),sl30⟩) (c30:PySem.W.codeIn K cd30 "_law_asked"=true) (k30:PySem.W.keepIn K (.ref f30)=true)
  (a31:PySem.W.nsIn K mainGlobals "_law_refused"=some (some (.ref f31))) (l31:K.lookup f31=some ⟨oc31,od31,.func (PySem.W.fnOf "_law_refused" "_law_refused" (defArgs s_r) (defBody s_r) (defScope s_r) .none kV31 dc31 pm31 an31 cd31 ct31),sl31⟩) (c31:PySem.W.codeIn K cd31 "_law_refused"=true) (k31:PySem.W.keepIn K (.ref f31)=true)
  (a32:PySem.W.nsIn K mainGlobals "_law_number"=some (some (.ref f32))) (l32:K.lookup f32=some ⟨oc32,od32,.func (PySem.W.fnOf "_law_number" "_law_number" (defArgs s_u) (defBody s_u) (defScope s_u) .none kV32 dc32 pm32 an32 cd32 ct32),sl32⟩) (c32:PySem.W.codeIn K cd32 "_law_number"=true) (k32:PySem.W.keepIn K (.ref f32)=true)
  (a33:PySem.W.nsIn K mainGlobals "law"=some (some (.ref f33))) (l33:K.lookup f33=some ⟨oc33,od33,.func (PySem.W.fnOf "law" "law" (defArgs s_law) (defBody s_law) (defScope s_law) .none kV33 dc33 pm33 an33 cd33 ct33),sl33⟩) (c33:PySem.W.codeIn K cd33 "law"=true) (k33:PySem.W.keepIn K (.ref f33)=true)
  (z_isinstance:PySem.W.nsIn K mainGlobals "isinstance"=some none)
  (z_int:PySem.W.nsIn K mainGlobals "int"=some none)
  (z_bool:PySem.W.nsIn K mainGlobals "bool"=some none)
  (z_list:PySem.W.nsIn K mainGlobals "list"=some none)
  (z_len:PySem.W.nsIn K mainGlobals "len"=some none)
  (z_range:PySem.W.nsIn K mainGlobals "range"=some none)
  (z_enumerate:PySem.W.nsIn K mainGlobals "enumerate"=some none)
  (z_min:PySem.W.nsIn K mainGlobals "min"=some none)
  (z_max:PySem.W.nsIn K mainGlobals "max"=some none)
  (z_divmod:PySem.W.nsIn K mainGlobals "divmod"=some none)
  (z_reversed:PySem.W.nsIn K mainGlobals "reversed"=some none)
  (z_sum:PySem.W.nsIn K mainGlobals "sum"=some none)
  (z_repr:PySem.W.nsIn K mainGlobals "repr"=some none)
  (y_LEAST_BASE:PySem.W.nsIn K mainGlobals "LEAST_BASE"=some (some (.int 2 t_LEAST_BASE)))
  (y_GREATEST_BASE:PySem.W.nsIn K mainGlobals "GREATEST_BASE"=some (some (.int 36 t_GREATEST_BASE)))
  (xa_MirrorError:PySem.W.nsIn K mainGlobals "MirrorError"=some (some (.ref X_MirrorError)))
  (xl_MirrorError:K.lookup X_MirrorError=some (excClassObj nm_MirrorError q_MirrorError X_MirrorError N_MirrorError bs_MirrorError vbm hd_MirrorError sn_MirrorError sub_MirrorError ab_MirrorError col_MirrorError dd_MirrorError x0_MirrorError x1_MirrorError x2_MirrorError x3_MirrorError x5_MirrorError "ValueError.__new__"))
  (xd_MirrorError:K.lookup N_MirrorError=some ⟨oc_MirrorError,od_MirrorError,.dict es_MirrorError ep_MirrorError,sl_MirrorError⟩)
  (xo_MirrorError:strKeys es_MirrorError=true)
  (xi_MirrorError:PySem.W.nsIn K N_MirrorError "__init__"=some none)
  (xa_NoBase:PySem.W.nsIn K mainGlobals "NoBase"=some (some (.ref X_NoBase)))
  (xl_NoBase:K.lookup X_NoBase=some (excClassObj nm_NoBase q_NoBase X_NoBase N_NoBase bs_NoBase (.ref X_MirrorError::vbm) hd_NoBase sn_NoBase sub_NoBase ab_NoBase col_NoBase dd_NoBase x0_NoBase x1_NoBase x2_NoBase x3_NoBase x5_NoBase "ValueError.__new__"))
  (xd_NoBase:K.lookup N_NoBase=some ⟨oc_NoBase,od_NoBase,.dict es_NoBase ep_NoBase,sl_NoBase⟩)
  (xo_NoBase:strKeys es_NoBase=true)
  (xi_NoBase:PySem.W.nsIn K N_NoBase "__init__"=some none)
  (xk_NoBase:PySem.W.isClsIn K X_NoBase=true)
  (xt_NoBase:PySem.W.typeIn K (.ref X_NoBase)=some (.type "type"))
  (xs_NoBase:PySem.W.subIn K (.ref X_NoBase) (.ref X_NoBase)=some true)
  (xn_NoBase:PySem.W.subIn K (.type "NoneType") (.ref X_NoBase)=some false)
  (xg_NoBase:PySem.W.findIn K (.ref X_NoBase) "__getattribute__"=some (some (.builtin "BaseException.__getattribute__")))
  (xx_NoBase:PySem.W.findIn K (.ref X_NoBase) "__getattr__"=some none)
  (xc_NoBase:PySem.W.findIn K (.ref X_NoBase) "__class__"=some (some (.builtin "object.__class__")))
  (xm_NoBase:PySem.W.subIn K (.ref X_NoBase) (.ref X_MirrorError)=some true)
  (xv_NoBase:PySem.W.subIn K (.ref X_NoBase) (.type "ValueError")=some true)
  (xa_NoPlace:PySem.W.nsIn K mainGlobals "NoPlace"=some (some (.ref X_NoPlace)))
  (xl_NoPlace:K.lookup X_NoPlace=some (excClassObj nm_NoPlace q_NoPlace X_NoPlace N_NoPlace bs_NoPlace (.ref X_MirrorError::vbm) hd_NoPlace sn_NoPlace sub_NoPlace ab_NoPlace col_NoPlace dd_NoPlace x0_NoPlace x1_NoPlace x2_NoPlace x3_NoPlace x5_NoPlace "ValueError.__new__"))
  (xd_NoPlace:K.lookup N_NoPlace=some ⟨oc_NoPlace,od_NoPlace,.dict es_NoPlace ep_NoPlace,sl_NoPlace⟩)
  (xo_NoPlace:strKeys es_NoPlace=true)
  (xi_NoPlace:PySem.W.nsIn K N_NoPlace "__init__"=some none)
  (xk_NoPlace:PySem.W.isClsIn K X_NoPlace=true)
  (xt_NoPlace:PySem.W.typeIn K (.ref X_NoPlace)=some (.type "type"))
  (xs_NoPlace:PySem.W.subIn K (.ref X_NoPlace) (.ref X_NoPlace)=some true)
  (xn_NoPlace:PySem.W.subIn K (.type "NoneType") (.ref X_NoPlace)=some false)
  (xg_NoPlace:PySem.W.findIn K (.ref X_NoPlace) "__getattribute__"=some (some (.builtin "BaseException.__getattribute__")))
  (xx_NoPlace:PySem.W.findIn K (.ref X_NoPlace) "__getattr__"=some none)
  (xc_NoPlace:PySem.W.findIn K (.ref X_NoPlace) "__class__"=some (some (.builtin "object.__class__")))
  (xm_NoPlace:PySem.W.subIn K (.ref X_NoPlace) (.ref X_MirrorError)=some true)
  (xv_NoPlace:PySem.W.subIn K (.ref X_NoPlace) (.type "ValueError")=some true)
  (xa_NoWay:PySem.W.nsIn K mainGlobals "NoWay"=some (some (.ref X_NoWay)))
  (xl_NoWay:K.lookup X_NoWay=some (excClassObj nm_NoWay q_NoWay X_NoWay N_NoWay bs_NoWay (.ref X_MirrorError::vbm) hd_NoWay sn_NoWay sub_NoWay ab_NoWay col_NoWay dd_NoWay x0_NoWay x1_NoWay x2_NoWay x3_NoWay x5_NoWay "ValueError.__new__"))
  (xd_NoWay:K.lookup N_NoWay=some ⟨oc_NoWay,od_NoWay,.dict es_NoWay ep_NoWay,sl_NoWay⟩)
  (xo_NoWay:strKeys es_NoWay=true)
  (xi_NoWay:PySem.W.nsIn K N_NoWay "__init__"=some none)
  (xk_NoWay:PySem.W.isClsIn K X_NoWay=true)
  (xt_NoWay:PySem.W.typeIn K (.ref X_NoWay)=some (.type "type"))
  (xs_NoWay:PySem.W.subIn K (.ref X_NoWay) (.ref X_NoWay)=some true)
  (xn_NoWay:PySem.W.subIn K (.type "NoneType") (.ref X_NoWay)=some false)
  (xg_NoWay:PySem.W.findIn K (.ref X_NoWay) "__getattribute__"=some (some (.builtin "BaseException.__getattribute__")))
  (xx_NoWay:PySem.W.findIn K (.ref X_NoWay) "__getattr__"=some none)
  (xc_NoWay:PySem.W.findIn K (.ref X_NoWay) "__class__"=some (some (.builtin "object.__class__")))
  (xm_NoWay:PySem.W.subIn K (.ref X_NoWay) (.ref X_MirrorError)=some true)
  (xv_NoWay:PySem.W.subIn K (.ref X_NoWay) (.type "ValueError")=some true)
  (xp_NoBase_NoPlace:PySem.W.subIn K (.ref X_NoBase) (.ref X_NoPlace)=some false)
  (xp_NoBase_NoWay:PySem.W.subIn K (.ref X_NoBase) (.ref X_NoWay)=some false)
  (xp_NoPlace_NoBase:PySem.W.subIn K (.ref X_NoPlace) (.ref X_NoBase)=some false)
  (xp_NoPlace_NoWay:PySem.W.subIn K (.ref X_NoPlace) (.ref X_NoWay)=some false)
  (xp_NoWay_NoBase:PySem.W.subIn K (.ref X_NoWay) (.ref X_NoBase)=some false)
  (xp_NoWay_NoPlace:PySem.W.subIn K (.ref X_NoWay) (.ref X_NoPlace)=some false)
  (xnv:PySem.W.subIn K (.type "NoneType") (.type "ValueError")=some false)
  : ∃fd:FuncData,(∀(s:Shared) (v:Value),BindsTo s fd ⟨[v],[]⟩ [("script",v)])/\∀base:Heap,K.In base->base.Ns mainGlobals mg->FnOk l.prog w K mg base CX0 25 fa fd ["script"] (spOf K S_law):=by
 have e:=hfa.symm.trans (PySem.W.mg_of X G a33)
 cases e
 have T:Txt mg:=⟨PySem.W.mg_none_of X G z_isinstance,PySem.W.mg_none_of X G z_int,PySem.W.mg_none_of X G z_bool,PySem.W.mg_none_of X G z_list,PySem.W.mg_none_of X G z_len,PySem.W.mg_none_of X G z_range,PySem.W.mg_none_of X G z_enumerate,PySem.W.mg_none_of X G z_min,PySem.W.mg_none_of X G z_max,PySem.W.mg_none_of X G z_divmod,PySem.W.mg_none_of X G z_reversed,PySem.W.mg_none_of X G z_sum,PySem.W.mg_none_of X G z_repr,⟨t_LEAST_BASE,PySem.W.mg_of X G y_LEAST_BASE⟩,⟨t_GREATEST_BASE,PySem.W.mg_of X G y_GREATEST_BASE⟩⟩
 have xe_MirrorError:PySem.W.excIn K X_MirrorError vbm "ValueError.__new__"=true:=exc_base xl_MirrorError (nsOk_of xd_MirrorError xo_MirrorError) xi_MirrorError
 have xe_NoBase:PySem.W.excIn K X_NoBase vbm "ValueError.__new__"=true:=exc_sub xl_NoBase (nsOk_of xd_NoBase xo_NoBase) xi_NoBase xl_MirrorError (nsOk_of xd_MirrorError xo_MirrorError) xi_MirrorError
 have xe_NoPlace:PySem.W.excIn K X_NoPlace vbm "ValueError.__new__"=true:=exc_sub xl_NoPlace (nsOk_of xd_NoPlace xo_NoPlace) xi_NoPlace xl_MirrorError (nsOk_of xd_MirrorError xo_MirrorError) xi_MirrorError
 have xe_NoWay:PySem.W.excIn K X_NoWay vbm "ValueError.__new__"=true:=exc_sub xl_NoWay (nsOk_of xd_NoWay xo_NoWay) xi_NoWay xl_MirrorError (nsOk_of xd_MirrorError xo_MirrorError) xi_MirrorError
 have TX:XT K mg ⟨X_MirrorError,X_NoBase,X_NoPlace,X_NoWay⟩:=⟨⟨PySem.W.mg_of X G xa_MirrorError,xe_MirrorError⟩,⟨PySem.W.mg_of X G xa_NoBase,xe_NoBase⟩,⟨PySem.W.mg_of X G xa_NoPlace,xe_NoPlace⟩,⟨PySem.W.mg_of X G xa_NoWay,xe_NoWay⟩,⟨xe_NoBase,xg_NoBase,xx_NoBase,xc_NoBase⟩,⟨xe_NoPlace,xg_NoPlace,xx_NoPlace,xc_NoPlace⟩,⟨xe_NoWay,xg_NoWay,xx_NoWay,xc_NoWay⟩,xm_NoBase,xm_NoPlace,xm_NoWay,kit_ty (by kernel_rfl) xv_NoBase (fun z=>by cases z),kit_ty (by kernel_rfl) xv_NoPlace (fun z=>by cases z),kit_ty (by kernel_rfl) xv_NoWay (fun z=>by cases z),kit_ty (by kernel_rfl) xnv (fun z=>absurd (Value.type.inj z) (by decide)),kit_own xk_NoBase xt_NoBase xn_NoBase (fun z=>by cases z),kit_own xk_NoPlace xt_NoPlace xn_NoPlace (fun z=>by cases z),kit_own xk_NoWay xt_NoWay xn_NoWay (fun z=>by cases z),kit_own xk_NoBase xt_NoBase xs_NoBase (fun _=>rfl),kit_own xk_NoPlace xt_NoPlace xp_NoBase_NoPlace (kit_ne xp_NoBase_NoPlace xs_NoPlace),kit_own xk_NoWay xt_NoWay xp_NoBase_NoWay (kit_ne xp_NoBase_NoWay xs_NoWay),kit_own xk_NoBase xt_NoBase xp_NoPlace_NoBase (kit_ne xp_NoPlace_NoBase xs_NoBase),kit_own xk_NoPlace xt_NoPlace xs_NoPlace (fun _=>rfl),kit_own xk_NoWay xt_NoWay xp_NoPlace_NoWay (kit_ne xp_NoPlace_NoWay xs_NoWay),kit_own xk_NoBase xt_NoBase xp_NoWay_NoBase (kit_ne xp_NoWay_NoBase xs_NoBase),kit_own xk_NoPlace xt_NoPlace xp_NoWay_NoPlace (kit_ne xp_NoWay_NoPlace xs_NoPlace),kit_own xk_NoWay xt_NoWay xs_NoWay (fun _=>rfl),xs_NoBase,xp_NoBase_NoPlace,xp_NoBase_NoWay,xp_NoPlace_NoBase,xs_NoPlace,xp_NoPlace_NoWay,xp_NoWay_NoBase,xp_NoWay_NoPlace,xs_NoWay⟩
 let D1:A_A K mg:=⟨f1,_,fun_mk (st:=s_A) l1 c1 k1,PySem.W.mg_of X G a1,(fun_mk (st:=s_A) l1 c1 k1).binds fun _ _ _ _ _ _ us hl=>len2 us hl fun _ _=>rfl⟩
 let D2:A_E K mg:=⟨f2,_,fun_mk (st:=s_E) l2 c2 k2,PySem.W.mg_of X G a2,(fun_mk (st:=s_E) l2 c2 k2).binds fun _ _ _ _ _ _ us hl=>len2 us hl fun _ _=>rfl⟩
 let D3:A_i K mg:=⟨f3,_,fun_mk (st:=s_i) l3 c3 k3,PySem.W.mg_of X G a3,(fun_mk (st:=s_i) l3 c3 k3).binds fun _ _ _ _ _ _ us hl=>len2 us hl fun _ _=>rfl⟩
 let D4:A_G K mg:=⟨f4,_,fun_mk (st:=s_G) l4 c4 k4,PySem.W.mg_of X G a4,(fun_mk (st:=s_G) l4 c4 k4).binds fun _ _ _ _ _ _ us hl=>len1 us hl fun _=>rfl⟩
 let D5:A_b K mg:=⟨f5,_,fun_mk (st:=s_b) l5 c5 k5,PySem.W.mg_of X G a5,(fun_mk (st:=s_b) l5 c5 k5).binds fun _ _ _ _ _ _ us hl=>len1 us hl fun _=>rfl⟩
 let D6:A_a K mg:=⟨f6,_,fun_mk (st:=s_a) l6 c6 k6,PySem.W.mg_of X G a6,(fun_mk (st:=s_a) l6 c6 k6).binds fun _ _ _ _ _ _ us hl=>len1 us hl fun _=>rfl⟩
 let D7:A_q K mg:=⟨f7,_,fun_mk (st:=s_q) l7 c7 k7,PySem.W.mg_of X G a7,(fun_mk (st:=s_q) l7 c7 k7).binds fun _ _ _ _ _ _ us hl=>len4 us hl fun _ _ _ _=>rfl⟩
 let D8:A_v K mg:=⟨f8,_,fun_mk (st:=s_v) l8 c8 k8,PySem.W.mg_of X G a8,(fun_mk (st:=s_v) l8 c8 k8).binds fun _ _ _ _ _ _ us hl=>len4 us hl fun _ _ _ _=>rfl⟩
 let D9:A_m K mg:=⟨f9,_,fun_mk (st:=s_m) l9 c9 k9,PySem.W.mg_of X G a9,(fun_mk (st:=s_m) l9 c9 k9).binds fun _ _ _ _ _ _ us hl=>len3 us hl fun _ _ _=>rfl⟩
 let D10:A_p K mg:=⟨f10,_,fun_mk (st:=s_p) l10 c10 k10,PySem.W.mg_of X G a10,(fun_mk (st:=s_p) l10 c10 k10).binds fun _ _ _ _ _ _ us hl=>len2 us hl fun _ _=>rfl⟩
 let D11:A_d K mg:=⟨f11,_,fun_mk (st:=s_d) l11 c11 k11,PySem.W.mg_of X G a11,(fun_mk (st:=s_d) l11 c11 k11).binds fun _ _ _ _ _ _ us hl=>len2 us hl fun _ _=>rfl⟩
 let D12:A_e K mg:=⟨f12,_,fun_mk (st:=s_e) l12 c12 k12,PySem.W.mg_of X G a12,(fun_mk (st:=s_e) l12 c12 k12).binds fun _ _ _ _ _ _ us hl=>len3 us hl fun _ _ _=>rfl⟩
 let D13:A_g K mg:=⟨f13,_,fun_mk (st:=s_g) l13 c13 k13,PySem.W.mg_of X G a13,(fun_mk (st:=s_g) l13 c13 k13).binds fun _ _ _ _ _ _ us hl=>len2 us hl fun _ _=>rfl⟩
 let D14:A_c K mg:=⟨f14,_,fun_mk (st:=s_c) l14 c14 k14,PySem.W.mg_of X G a14,(fun_mk (st:=s_c) l14 c14 k14).binds fun _ _ _ _ _ _ us hl=>len2 us hl fun _ _=>rfl⟩
 let D15:A_y K mg:=⟨f15,_,fun_mk (st:=s_y) l15 c15 k15,PySem.W.mg_of X G a15,(fun_mk (st:=s_y) l15 c15 k15).binds fun _ _ _ _ _ _ us hl=>len3 us hl fun _ _ _=>rfl⟩
 let D16:A_f K mg:=⟨f16,_,fun_mk (st:=s_f) l16 c16 k16,PySem.W.mg_of X G a16,(fun_mk (st:=s_f) l16 c16 k16).binds fun _ _ _ _ _ _ us hl=>len4 us hl fun _ _ _ _=>rfl⟩
 let D17:A_n K mg:=⟨f17,_,fun_mk (st:=s_n) l17 c17 k17,PySem.W.mg_of X G a17,(fun_mk (st:=s_n) l17 c17 k17).binds fun _ _ _ _ _ _ us hl=>len4 us hl fun _ _ _ _=>rfl⟩
 let D18:A_t K mg:=⟨f18,_,fun_mk (st:=s_t) l18 c18 k18,PySem.W.mg_of X G a18,(fun_mk (st:=s_t) l18 c18 k18).binds fun _ _ _ _ _ _ us hl=>len4 us hl fun _ _ _ _=>rfl⟩
 let D19:A_h K mg:=⟨f19,_,fun_mk (st:=s_h) l19 c19 k19,PySem.W.mg_of X G a19,(fun_mk (st:=s_h) l19 c19 k19).binds fun _ _ _ _ _ _ us hl=>len2 us hl fun _ _=>rfl⟩
 let D20:A_x K mg:=⟨f20,_,fun_mk (st:=s_x) l20 c20 k20,PySem.W.mg_of X G a20,(fun_mk (st:=s_x) l20 c20 k20).binds fun _ _ _ _ _ _ us hl=>len3 us hl fun _ _ _=>rfl⟩
 let D21:A_k K mg:=⟨f21,_,fun_mk (st:=s_k) l21 c21 k21,PySem.W.mg_of X G a21,(fun_mk (st:=s_k) l21 c21 k21).binds fun _ _ _ _ _ _ us hl=>len3 us hl fun _ _ _=>rfl⟩
 let D22:A_j K mg:=⟨f22,_,fun_mk (st:=s_j) l22 c22 k22,PySem.W.mg_of X G a22,(fun_mk (st:=s_j) l22 c22 k22).binds fun _ _ _ _ _ _ us hl=>len3 us hl fun _ _ _=>rfl⟩
 let D23:A_l K mg:=⟨f23,_,fun_mk (st:=s_l) l23 c23 k23,PySem.W.mg_of X G a23,(fun_mk (st:=s_l) l23 c23 k23).binds fun _ _ _ _ _ _ us hl=>len4 us hl fun _ _ _ _=>rfl⟩
 let D24:A_F K mg:=⟨f24,_,fun_mk (st:=s_F) l24 c24 k24,PySem.W.mg_of X G a24,(fun_mk (st:=s_F) l24 c24 k24).binds fun _ _ _ _ _ _ us hl=>len2 us hl fun _ _=>rfl⟩
 let D25:A_C K mg:=⟨f25,_,fun_mk (st:=s_C) l25 c25 k25,PySem.W.mg_of X G a25,(fun_mk (st:=s_C) l25 c25 k25).binds fun _ _ _ _ _ _ us hl=>len4 us hl fun _ _ _ _=>rfl⟩
 let D26:A_o K mg:=⟨f26,_,fun_mk (st:=s_o) l26 c26 k26,PySem.W.mg_of X G a26,(fun_mk (st:=s_o) l26 c26 k26).binds fun _ _ _ _ _ _ us hl=>len2 us hl fun _ _=>rfl⟩
 let D27:A_D K mg:=⟨f27,_,fun_mk (st:=s_D) l27 c27 k27,PySem.W.mg_of X G a27,(fun_mk (st:=s_D) l27 c27 k27).binds fun _ _ _ _ _ _ us hl=>len2 us hl fun _ _=>rfl⟩
 let D28:A_z K mg:=⟨f28,_,fun_mk (st:=s_z) l28 c28 k28,PySem.W.mg_of X G a28,(fun_mk (st:=s_z) l28 c28 k28).binds fun _ _ _ _ _ _ us hl=>len2 us hl fun _ _=>rfl⟩
 let D29:A_B K mg:=⟨f29,_,fun_mk (st:=s_B) l29 c29 k29,PySem.W.mg_of X G a29,(fun_mk (st:=s_B) l29 c29 k29).binds fun _ _ _ _ _ _ us hl=>len3 us hl fun _ _ _=>rfl⟩
 let D30:A_w K mg:=⟨f30,_,fun_mk (st:=s_w) l30 c30 k30,PySem.W.mg_of X G a30,(fun_mk (st:=s_w) l30 c30 k30).binds fun _ _ _ _ _ _ us hl=>len2 us hl fun _ _=>rfl⟩
 let D31:A_r K mg:=⟨f31,_,fun_mk (st:=s_r) l31 c31 k31,PySem.W.mg_of X G a31,(fun_mk (st:=s_r) l31 c31 k31).binds fun _ _ _ _ _ _ us hl=>len2 us hl fun _ _=>rfl⟩
 let D32:A_u K mg:=⟨f32,_,fun_mk (st:=s_u) l32 c32 k32,PySem.W.mg_of X G a32,(fun_mk (st:=s_u) l32 c32 k32).binds fun _ _ _ _ _ _ us hl=>len3 us hl fun _ _ _=>rfl⟩
 let D33:DefAt K mg "law" s_law ["script"]:=⟨fa,_,fun_mk (st:=s_law) l33 c33 k33,PySem.W.mg_of X G a33,(fun_mk (st:=s_law) l33 c33 k33).binds fun _ _ _ _ _ _ us hl=>len1 us hl fun _=>rfl⟩
 exact ⟨D33.fd,fun s v=>.of_eq rfl,fun base _ _=>ok_law T TX D33 D1 D2 D3 D4 D5 D6 D7 D8 D9 D10 D11 D12 D13 D14 D15 D16 D17 D18 D19 D20 D21 D22 D23 D24 D25 D26 D27 D28 D29 D30 D31 D32⟩
theorem walk {l:PySem.W.OpenLaw} {q:Program} {loose:List Str} {XP:(Str->Option Value)->Heap->Prop} {YP:World->Heap->Prop} {d:DefRec} {K:Params->PySem.W.Frag} (hn:l.most=some 63) (hdf:d.params.defaults=[])
  (hY:∀(w:World) (h:Heap),YP w h->(K w.params).In h)
  (F:∀(w:World) (mg:Str->Option Value) (fa:Addr) (h:Heap),(K w.params).In h->h.Ns mainGlobals mg->mg d.name=some (.ref fa)->
   ∃fd:FuncData,(∀(s:Shared) (u:Value),BindsTo s fd ⟨[u],[]⟩ [("script",u)])/\∀base:Heap,(K w.params).In base->base.Ns mainGlobals mg->FnOk l.prog w (K w.params) mg base CX0 25 fa fd ["script"] (spOf (K w.params) S_law)) :
  PySem.W.WalkO q loose XP YP l.row.toRowW d [] (fun f vs=>PySem.call f vs):=
 L2.walk_of (n:=63) (k:=25) (x:="script") (CX:=fun _=>CX0) (sp:=fun w=>spOf (K w.params) S_law) hn (by decide) hdf ⟨rfl,by decide,by decide,rfl⟩ hY F (fun _ _ a ns hl _ hS=>sp_start hl hS) fun _ _ _ _ _ z=>z
end K32
namespace PySem.W.Fast
def tw13524017686866587267:=()
def tw3183514576331470616:=()
def tw6633209183530883087:=()
def tw10344291504494755199:=()
def tw8917736693917077109:=()
def tw14875662706651387933:=()
def tw9001956722763966564:=()
def tw15278770634956196290:=()
def tw11933574518540257935:=()
def tw17583105843698538408:=()
def tw4055779510383682219:=()
def tw9139989811525371231:=()
def tw9511536456790922441:=()
def tw3655889761358998123:=()
def tw6488562791173316999:=()
def tw10254921978273867328:=()
def tw7357818777495342391:=()
def tw16735119819276408295:=()
def tw2339826954065110461:=()
def tw7233946797767974015:=()
def tw8418066030158842937:=()
def tw6314699818299497781:=()
def tw10319013778371747972:=()
def tw4677671502053592214:=()
def tw10357346294908101216:=()
def tw10944647792043764390:=()
def tw3537143440741239255:=()
def tw760523345751252284:=()
def tw2913387542624607180:=()
def tw17122789607681013463:=()
def tw7408380017740108347:=()
def tw134812429757843476:=()
def tw12368813446385598201:=()
def tw6514060270273916455:=()
def tw4434204831024907561:=()
def tw15081985715252490213:=()
def tw14237201413140843075:=()
def tw16974600168991386456:=()
def tw1867709378877149887:=()
def tw9944503908528130954:=()
def tw2922672504857240239:=()
def tw10896130793763493125:=()
def tw8096257387895005877:=()
def tw7926577634226753746:=()
def tw9779393385112905432:=()
def tw480173236500674011:=()
def tw12795172095163615415:=()
def tw3065819687472545437:=()
def tw16491406230282754989:=()
def tw2804212688578829432:=()
def tw12957954442825731829:=()
def tw4644331158429366736:=()
def tw10790476084829812208:=()
def tw14887439660574518919:=()
def tw10837044882754204251:=()
def tw7508280236956619999:=()
def tw8990203997576775706:=()
def tw6176299560692654885:=()
def tw8632937293223402182:=()
def tw11845869761619389586:=()
def tw9646391713850099595:=()
def tw9182954759275309172:=()
def tw8886373932933299274:=()
def tw11043326558095202416:=()
def tw492355540862732646:=()
def tw11321633019462957515:=()
def tw4305503791505872990:=()
def tw14994404642888155559:=()
def tw4913473065654340536:=()
def tw6281407025480207174:=()
def tw12012479588818702022:=()
def tw17533195579082645954:=()
def tw8378392136918710910:=()
def tw3107305958792089732:=()
def tw4454951932439613218:=()
def tw4035462083759561316:=()
def tw8081539000815027178:=()
def tw16050990180579068606:=()
def tw9990897801858542770:=()
def tw5846518943183640120:=()
def tw7893178920745455145:=()
def tw9254854666793821753:=()
def tw16320619202121583092:=()
def tw15824985998005079398:=()
def tw3754762478544642706:=()
def tw6151834662471391115:=()
def tw3622205537477426805:=()
def tw12284846850051287955:=()
def tw11848381910348931032:=()
def tw16454264737668442845:=()
def tw14318823101916323878:=()
def tw12787777646225551090:=()
def tw8469742644743721053:=()
def tw7593694077705314367:=()
def tw986181376417792287:=()
def tw17432834886190207445:=()
def tw4908139274619658870:=()
def tw703360233384015276:=()
def tw15173628424246252134:=()
def tw15084926521547731645:=()
def tw5730016372322649822:=()
def tw10212544252426096403:=()
def tw16508457866338490175:=()
def tw16500647948589008776:=()
def tw2516348208089834844:=()
def tw4021830667473052613:=()
def tw792848861652116971:=()
def tw8681259708569476135:=()
def tw9840265909670753300:=()
def tw12767114014978986639:=()
def tw9950639353027137593:=()
def tw9565192938076903131:=()
def tw6180688305335872206:=()
def tw118506860898101098:=()
def tw1412651699109027250:=()
def tw8092548687523310563:=()
def tw7016864124960565789:=()
def tw8065968820428791180:=()
def tw4075588365716501390:=()
def tw10069123404493963513:=()
def tw1809472980953716260:=()
def tw14908861031699280835:=()
def tw2318507596524607285:=()
def tw6363272435324001249:=()
def tw3256996370111760553:=()
def tw1477489392397099348:=()
def tw17279891470357284320:=()
def tw11334311560594525405:=()
def tw6082315482009016030:=()
def tw6486196525243826092:=()
def tw7394530453082081079:=()
def tw4942515140736325430:=()
def tw8350580249780884492:=()
def tw17348327760899080246:=()
def tw13935382201800861680:=()
def tw3885007033868397543:=()
def tw15796560770578884774:=()
def tw7202412323022599185:=()
def tw2879996564499873062:=()
def tw649785289997064691:=()
def tw2868426032560414369:=()
def tw14574828545307090222:=()
def tw9324158876553927499:=()
def tw14007027969941386552:=()
def tw13921793489326772430:=()
def tw5308724312615551057:=()
def tw4104852929546146728:=()
def tw16482391652757805872:=()
def tw13486504765690453701:=()
def tw8621787793496270003:=()
def tw6706936228571215472:=()
def tw12018490958854144378:=()
def tw11708618080580715817:=()
def tw13561924296806495556:=()
def tw16719971767875744626:=()
def tw7265748142243968920:=()
def tw3342769445047242034:=()
def tw3106827496732977606:=()
def tw7649537059020600715:=()
def tw583205305209904749:=()
def tw3952275338188636919:=()
def tw15480634164993179216:=()
def tw5446371217075675675:=()
def tw13295787117082952131:=()
def tw4457724186735588868:=()
def tw9015328531004534035:=()
def tw15731298030883337626:=()
def tw14547989586187193981:=()
def tw5247770787446521112:=()
def tw10102098666791397692:=()
def tw6743096248936945711:=()
def tw4628598453898094829:=()
def tw3346628799688798727:=()
def tw4464605679697023468:=()
def tw12711778206510318936:=()
def tw9883347737350157390:=()
def tw12749554145694683505:=()
def tw10855064118256472744:=()
def tw6893122137377175614:=()
def tw6847577010269820830:=()
def tw9174178650799286480:=()
def tw16758519636638821637:=()
def tw4505984999534682977:=()
def tw142529239131338468:=()
def tw3428910131404757540:=()
def tw18434451770674709435:=()
def tw4320768913638492375:=()
def tw10300173757585448642:=()
def tw11254800123856730383:=()
def tw17704668286418647183:=()
def tw13809959165500224358:=()
def tw4022665448974613275:=()
def tw7189120987753571598:=()
def tw9610220158103415117:=()
def tw8745573568233538142:=()
def tw15864521634759753766:=()
def tw17170272311758385779:=()
def tw17343837472966600463:=()
def tw7975896802441833330:=()
def tw15730266571779001619:=()
def tw4006413019088621735:=()
def tw16404096514737249542:=()
def tw747859341325219057:=()
def tw11763472778663686120:=()
def tw15295929732468121112:=()
def tw3701112786917597428:=()
def tw13194805569206868934:=()
def tw10629986048048337754:=()
def tw7319290109630411603:=()
def tw2265575311156337547:=()
def tw7395755611912748621:=()
def tw5955523311564498656:=()
def tw1240020728650277663:=()
def tw9167234145557378795:=()
def tw6851291372210093723:=()
def tw2087817233247771011:=()
def tw9335584095755410299:=()
def tw8523218847294055130:=()
def tw6931357541943070328:=()
def tw17300661605711126886:=()
def tw7044679927636241820:=()
def tw14156214514855285988:=()
def tw8789954360040849014:=()
def tw7876136044693949210:=()
def tw17348702018465056385:=()
def tw8578427807257378627:=()
def tw4135169578955418856:=()
def tw16016524807873243844:=()
def tw12663808565287488178:=()
def tw6187296037042433426:=()
def tw2314387604926378769:=()
def tw7671471648984950751:=()
def tw1383306019020576917:=()
def tw16097954155881752498:=()
def tw7610552345882320683:=()
def tw5698105439482263197:=()
def tw14783431299199947286:=()
def tw1129118725359676673:=()
def tw11027841477522335137:=()
def tw13969135026786383963:=()
def tw11640179718206821832:=()
def tw5672636269198413740:=()
def tw9938215967733555890:=()
def tw7378752034562758209:=()
def tw7096923206868885963:=()
def tw17847889330161276912:=()
def tw2598577565052894468:=()
def tw11696542372720669582:=()
def tw11280548003041329309:=()
def tw9486395131597487929:=()
def tw17249664081015043246:=()
def tw15634806642094525724:=()
def tw13426293830485520344:=()
def tw14927878189241417453:=()
def tw14641119528052624286:=()
def tw13353790710146274557:=()
def tw10222451849434529565:=()
def tw8528129647001958752:=()
def tw17750607506642682570:=()
def tw8254439525436486106:=()
def tw9436247729218386392:=()
def tw16007736263566814898:=()
def tw2844936411441538326:=()
def tw12011574660080983183:=()
def tw8661250006549184011:=()
def tw1569647891650979224:=()
def tw17348418267023812610:=()
def tw326624286361246943:=()
def tw11591563568906029975:=()
def tw15185133545292734664:=()
def tw5250118382166185703:=()
def tw16337358290710906844:=()
def tw44164363620498033:=()
def tw16234822536158839793:=()
def tw8938673375177957862:=()
def tw5725209083180116748:=()
end PySem.W.Fast
open PySem PySem.W PyProof.Rows
set_option maxRecDepth 100000 in
set_option maxHeartbeats 0 in
theorem PySem.Challenge.cw_mirrorsums_k32_whole_again_and_shared_holds : PySem.Challenge.rw_mirrorsums_k32_whole_again_and_shared.Holds := by
 w_on;o_law;k_head;(case hw=>w_witness2)
 k_fill
 refine K32.walk (l:=PySem.Challenge.rw_mirrorsums_k32_whole_again_and_shared) rfl rfl (fun w h Y=>PySem.W.kIn_of Y) ?F
 case F=>
  intro w mg fa h KX G hmg
  refine' K32.all_mk KX G hmg ?a1 ?l1 ?c1 ?k1 ?a2 ?l2 ?c2 ?k2 ?a3 ?l3 ?c3 ?k3 ?a4 ?l4 ?c4 ?k4 ?a5 ?l5 ?c5 ?k5 ?a6 ?l6 ?c6 ?k6 ?a7 ?l7 ?c7 ?k7 ?a8 ?l8 ?c8 ?k8 ?a9 ?l9 ?c9 ?k9 ?a10 ?l10 ?c10 ?k10 ?a11 ?l11 ?c11 ?k11 ?a12 ?l12 ?c12 ?k12 ?a13 ?l13 ?c13 ?k13 ?a14 ?l14 ?c14 ?k14 ?a15 ?l15 ?c15 ?k15 ?a16 ?l16 ?c16 ?k16 ?a17 ?l17 ?c17 ?k17 ?a18 ?l18 ?c18 ?k18 ?a19 ?l19 ?c19 ?k19 ?a20 ?l20 ?c20 ?k20 ?a21 ?l21 ?c21 ?k21 ?a22 ?l22 ?c22 ?k22 ?a23 ?l23 ?c23 ?k23 ?a24 ?l24 ?c24 ?k24 ?a25 ?l25 ?c25 ?k25 ?a26 ?l26 ?c26 ?k26 ?a27 ?l27 ?c27 ?k27 ?a28 ?l28 ?c28 ?k28 ?a29 ?l29 ?c29 ?k29 ?a30 ?l30 ?c30 ?k30 ?a31 ?l31 ?c31 ?k31 ?a32 ?l32 ?c32 ?k32 ?a33 ?l33 ?c33 ?k33 ?z_isinstance ?z_int ?z_bool ?z_list ?z_len ?z_range ?z_enumerate ?z_min ?z_max ?z_divmod ?z_reversed ?z_sum ?z_repr ?y_LEAST_BASE ?y_GREATEST_BASE ?xa_MirrorError ?xl_MirrorError ?xd_MirrorError ?xo_MirrorError ?xi_MirrorError ?xa_NoBase ?xl_NoBase ?xd_NoBase ?xo_NoBase ?xi_NoBase ?xk_NoBase ?xt_NoBase ?xs_NoBase ?xn_NoBase ?xg_NoBase ?xx_NoBase ?xc_NoBase ?xm_NoBase ?xv_NoBase ?xa_NoPlace ?xl_NoPlace ?xd_NoPlace ?xo_NoPlace ?xi_NoPlace ?xk_NoPlace ?xt_NoPlace ?xs_NoPlace ?xn_NoPlace ?xg_NoPlace ?xx_NoPlace ?xc_NoPlace ?xm_NoPlace ?xv_NoPlace ?xa_NoWay ?xl_NoWay ?xd_NoWay ?xo_NoWay ?xi_NoWay ?xk_NoWay ?xt_NoWay ?xs_NoWay ?xn_NoWay ?xg_NoWay ?xx_NoWay ?xc_NoWay ?xm_NoWay ?xv_NoWay ?xp_NoBase_NoPlace ?xp_NoBase_NoWay ?xp_NoPlace_NoBase ?xp_NoPlace_NoWay ?xp_NoWay_NoBase ?xp_NoWay_NoPlace ?xnv
  (case a1=>k_is)
  (case l1=>k_is)
  (case c1=>k_is)
  (case k1=>k_is)
  (case a2=>k_is)
  (case l2=>k_is)
  (case c2=>k_is)
  (case k2=>k_is)
  (case a3=>k_is)
  (case l3=>k_is)
  (case c3=>k_is)
  (case k3=>k_is)
  (case a4=>k_is)
  (case l4=>k_is)
  (case c4=>k_is)
  (case k4=>k_is)
  (case a5=>k_is)
  (case l5=>k_is)
  (case c5=>k_is)
  (case k5=>k_is)
  (case a6=>k_is)
  (case l6=>k_is)
  (case c6=>k_is)
  (case k6=>k_is)
  (case a7=>k_is)
  (case l7=>k_is)
  (case c7=>k_is)
  (case k7=>k_is)
  (case a8=>k_is)
  (case l8=>k_is)
  (case c8=>k_is)
  (case k8=>k_is)
  (case a9=>k_is)
  (case l9=>k_is)
  (case c9=>k_is)
  (case k9=>k_is)
  (case a10=>k_is)
  (case l10=>k_is)
  (case c10=>k_is)
  (case k10=>k_is)
  (case a11=>k_is)
  (case l11=>k_is)
  (case c11=>k_is)
  (case k11=>k_is)
  (case a12=>k_is)
  (case l12=>k_is)
  (case c12=>k_is)
  (case k12=>k_is)
  (case a13=>k_is)
  (case l13=>k_is)
  (case c13=>k_is)
  (case k13=>k_is)
  (case a14=>k_is)
  (case l14=>k_is)
  (case c14=>k_is)
  (case k14=>k_is)
  (case a15=>k_is)
  (case l15=>k_is)
  (case c15=>k_is)
  (case k15=>k_is)
  (case a16=>k_is)
  (case l16=>k_is)
  (case c16=>k_is)
  (case k16=>k_is)
  (case a17=>k_is)
  (case l17=>k_is)
  (case c17=>k_is)
  (case k17=>k_is)
  (case a18=>k_is)
  (case l18=>k_is)
  (case c18=>k_is)
  (case k18=>k_is)
  (case a19=>k_is)
  (case l19=>k_is)
  (case c19=>k_is)
  (case k19=>k_is)
  (case a20=>k_is)
  (case l20=>k_is)
  (case c20=>k_is)
  (case k20=>k_is)
  (case a21=>k_is)
  (case l21=>k_is)
  (case c21=>k_is)
  (case k21=>k_is)
  (case a22=>k_is)
  (case l22=>k_is)
  (case c22=>k_is)
  (case k22=>k_is)
  (case a23=>k_is)
  (case l23=>k_is)
  (case c23=>k_is)
  (case k23=>k_is)
  (case a24=>k_is)
  (case l24=>k_is)
  (case c24=>k_is)
  (case k24=>k_is)
  (case a25=>k_is)
  (case l25=>k_is)
  (case c25=>k_is)
  (case k25=>k_is)
  (case a26=>k_is)
  (case l26=>k_is)
  (case c26=>k_is)
  (case k26=>k_is)
  (case a27=>k_is)
  (case l27=>k_is)
  (case c27=>k_is)
  (case k27=>k_is)
  (case a28=>k_is)
  (case l28=>k_is)
  (case c28=>k_is)
  (case k28=>k_is)
  (case a29=>k_is)
  (case l29=>k_is)
  (case c29=>k_is)
  (case k29=>k_is)
  (case a30=>k_is)
  (case l30=>k_is)
  (case c30=>k_is)
  (case k30=>k_is)
  (case a31=>k_is)
  (case l31=>k_is)
  (case c31=>k_is)
  (case k31=>k_is)
  (case a32=>k_is)
  (case l32=>k_is)
  (case c32=>k_is)
  (case k32=>k_is)
  (case a33=>k_is)
  (case l33=>k_is)
  (case c33=>k_is)
  (case k33=>k_is)
  (case z_isinstance=>k_is)
  (case z_int=>k_is)
  (case z_bool=>k_is)
  (case z_list=>k_is)
  (case z_len=>k_is)
  (case z_range=>k_is)
  (case z_enumerate=>k_is)
  (case z_min=>k_is)
  (case z_max=>k_is)
  (case z_divmod=>k_is)
  (case z_reversed=>k_is)
  (case z_sum=>k_is)
  (case z_repr=>k_is)
  (case y_LEAST_BASE=>k_is)
  (case y_GREATEST_BASE=>k_is)
  (case xa_MirrorError=>k_is)
  (case xl_MirrorError=>k_is)
  (case xd_MirrorError=>k_is)
  (case xo_MirrorError=>rfl)
  (case xi_MirrorError=>k_is)
  (case xa_NoBase=>k_is)
  (case xl_NoBase=>k_is)
  (case xd_NoBase=>k_is)
  (case xo_NoBase=>rfl)
  (case xi_NoBase=>k_is)
  (case xk_NoBase=>k_is)
  (case xt_NoBase=>k_is)
  (case xs_NoBase=>k_is)
  (case xn_NoBase=>k_is)
  (case xg_NoBase=>k_is)
  (case xx_NoBase=>k_is)
  (case xc_NoBase=>k_is)
  (case xm_NoBase=>k_is)
  (case xv_NoBase=>k_is)
  (case xa_NoPlace=>k_is)
  (case xl_NoPlace=>k_is)
  (case xd_NoPlace=>k_is)
  (case xo_NoPlace=>rfl)
  (case xi_NoPlace=>k_is)
  (case xk_NoPlace=>k_is)
  (case xt_NoPlace=>k_is)
  (case xs_NoPlace=>k_is)
  (case xn_NoPlace=>k_is)
  (case xg_NoPlace=>k_is)
  (case xx_NoPlace=>k_is)
  (case xc_NoPlace=>k_is)
  (case xm_NoPlace=>k_is)
  (case xv_NoPlace=>k_is)
  (case xa_NoWay=>k_is)
  (case xl_NoWay=>k_is)
  (case xd_NoWay=>k_is)
  (case xo_NoWay=>rfl)
  (case xi_NoWay=>k_is)
  (case xk_NoWay=>k_is)
  (case xt_NoWay=>k_is)
  (case xs_NoWay=>k_is)
  (case xn_NoWay=>k_is)
  (case xg_NoWay=>k_is)
  (case xx_NoWay=>k_is)
  (case xc_NoWay=>k_is)
  (case xm_NoWay=>k_is)
  (case xv_NoWay=>k_is)
  (case xp_NoBase_NoPlace=>k_is)
  (case xp_NoBase_NoWay=>k_is)
  (case xp_NoPlace_NoBase=>k_is)
  (case xp_NoPlace_NoWay=>k_is)
  (case xp_NoWay_NoBase=>k_is)
  (case xp_NoWay_NoPlace=>k_is)
  (case xnv=>k_is)
