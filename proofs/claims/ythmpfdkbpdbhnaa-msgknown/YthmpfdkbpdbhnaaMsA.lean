/- The program's messages: Good, Put, Get, Same (MqA MqB MqD MqS). -/
import Derived.Test.YthmpfdkbpdbhnaaMqB
import Derived.Test.YthmpfdkbpdbhnaaMqD
import Derived.Test.YthmpfdkbpdbhnaaMqS
